/-
 The walk of SlabStale.
-/
import Derived.Test.YtmpajgaanghpoaaWS0
import Derived.Deep.DeepCutAuto
namespace Go.Proofs.Ytmpajgaanghpoaa
attribute [local irreducible] wpList wpQuiet
open Go.RowKit
set_option maxRecDepth 100000
set_option linter.unusedSimpArgs false
set_option linter.unusedVariables false

set_option maxRecDepth 100000 in
set_option maxHeartbeats 8000000 in
theorem stale_core (a : Option Addr) (c : Nat) (L : List Int) (w : World) (hl : L.length ≤ 9223372036854775807) (hr : Cs w a (icells L)) : Calls Try.prog 6 #[.slice a L.length c] w fun e w' => e = .returned (.bool true) ∧ Below w.heap.size w w' := by
 have HR := Lib.hid hr
 have HBW : Hid (Below w.heap.size w w) := Lib.hid (Below.refl _ w)
 clear hr
 go_enter Try.func6, Try.ntmps6
 go_upto_region 1 with fail
 have hbd := one_row a L.length c w
 have hXl : Bx (w.alloc (.cells #[.slice a L.length c] 22)) w.heap.size #[.slice a L.length c] 22 := heap_alloc_last w _
 have hbl : Below w.heap.size w (w.alloc (.cells #[.slice a L.length c] 22)) := (Below.refl _ w).alloc (Nat.le_refl _) _
 have CL := long_one w.heap.size a L.length c _ hXl hl
 generalize w.alloc (.cells #[.slice a L.length c] 22) = W1 at *
 have HB1 := Lib.hid (HBW.out.trans (hbl.mono HBW.out.size))
 have HBL := Lib.hid hbl
 clear hXl hbl
 by_cases hlong : 160 < L.length
 ·skip
  rw [decide_eq_true (by omega)] at CL
  refine wl <| gz1 (.slice a L.length c) ?_
  simp only [pu]
  refine gw_build (by kernel_rfl) (some 16) rfl 63 1 #[(0, .tmp 15)] rfl #[(0, .slice a L.length c)] (by kernel_rfl) (.slice (some ⟨w.heap.size, 0, none⟩) 1 1) _ hbd ?_
  simp only [pu]
  refine gzc (.bool true) (fun w' => W1 = w') (CL) (fun V9 hV9 => ?_)
  subst hV9
  simp only [pu]
  apply wpList_nil
  clear CL hbd
  have CK := known_true W1
  go_upto_region 2 with fail
  refine wl <| gzc (.bool true) (fun w' => Below W1.heap.size W1 w') (CK) (fun V2 hV2 => ?_)
  simp only [pu]
  refine gz1 (.bool true) <| wn ?_
  simp only [pu]
  have HE := HB1.out.trans (hV2.mono HB1.out.size)
  go_wp2_with fail
  go_ret
  exact ⟨rfl, HE⟩
 ·skip
  rw [decide_eq_false (by omega)] at CL
  refine wl <| gz1 (.slice a L.length c) ?_
  simp only [pu]
  refine gw_build (by kernel_rfl) (some 16) rfl 63 1 #[(0, .tmp 15)] rfl #[(0, .slice a L.length c)] (by kernel_rfl) (.slice (some ⟨w.heap.size, 0, none⟩) 1 1) _ hbd ?_
  simp only [pu]
  refine gzc (.bool false) (fun w' => W1 = w') (CL) (fun V9 hV9 => ?_)
  subst hV9
  simp only [pu]
  apply wpList_nil
  clear CL hbd
  have hlong : L.length ≤ 160 := by omega
  have CF := mk_from a L.length c W1
  have HL1 := Lib.hid (HR.out.below HBL.out)
  have HL : Hid (L.length ≤ 100000) := Lib.hid (by omega)
  have HLL : Hid (L.length ≤ 160) := Lib.hid hlong
  go_upto_region 3 with fail
  refine wl <| gz1 (.slice a L.length c) <| gze (fun v w' => v = .pointer (some ⟨W1.heap.size, 0, none⟩) ∧ w' = W1.alloc (.cells #[.slice a L.length c, .int .i64 0] 58)) (CF.mono fun e w' z => ⟨_, z.1, rfl, z.2⟩) (fun vv V0 hq => ?_)
  obtain ⟨rfl, hV0⟩ := hq
  have hb0 : Below W1.heap.size W1 V0 := by rw [hV0]; exact (Below.refl _ W1).alloc (Nat.le_refl _) _
  have hXn : Bx V0 W1.heap.size #[.slice a L.length c, .int .i64 (0 : Nat)] 58 := by rw [hV0]; exact heap_alloc_last W1 _
  obtain ⟨gn, hgn⟩ : ∃ g, W1.heap.size = g := ⟨_, rfl⟩
  rw [hgn] at hXn ⊢
  have hnm : Nm V0 gn a c L 0 := ⟨hXn, HL1.out.below hb0, fun hne y hy => by
   obtain ⟨b, off, e2, hb, -⟩ := HL1.out 0 _ (icells_at L 0 (List.length_pos_iff.2 hne))
   rw [hy] at e2; cases e2; show b < gn; omega⟩
  have HB0 := Lib.hid (HB1.out.trans (hb0.mono HB1.out.size))
  have hwn : w.heap.size ≤ gn := by have := HB1.out.size; omega
  have CN := q_new 4 V0
  simp only [pu]
  refine gz1 (.pointer (some ⟨gn, 0, none⟩)) <| wn ?_
  simp only [pu]
  go_upto_region 4 with fail
  refine wl <| gze (fun v w' => ∃ g S, v = .pointer (some ⟨g, 0, none⟩) ∧ RepS w' g S (newS 4) ∧ (∀ j, S j → V0.heap.size ≤ j) ∧ Below V0.heap.size V0 w') (CN.mono fun e w' z => by obtain ⟨g, S, z1, z2⟩ := z; exact ⟨_, z1, g, S, rfl, z2⟩) (fun vv V1 hq => ?_)
  obtain ⟨g0, S0, rfl, hr0, hso, hb1⟩ := hq
  simp only [pu]
  refine gz1 (.pointer (some ⟨g0, 0, none⟩)) <| wn ?_
  simp only [pu]
  have HTS0 : Hid (TS w gn a c L V0.heap.size g0 S0 (newS 4) (.slice none 0 0) (.slice none 0 0) [] [] 0 V1) := Lib.hid ⟨⟨hr0, hso, hb1.size, HB0.out.trans (hb1.mono HB0.out.size), HB0.out.size⟩, hnm.below hb1, hnm.lt, hwn, RowH.nil _ _, RowH.nil _ _, (fun k e => by cases e), (fun k e => by cases e), (fun k e => by cases e)⟩
  obtain ⟨B, hB⟩ : ∃ B, V0.heap.size = B := ⟨_, rfl⟩
  rw [hB] at HTS0
  have HPI0 : Hid (PI (newS 4) 0 [] []) := Lib.hid (PI.new 4 0)
  clear hr0 hso hb1 hnm hwn CN CF hXn hb0 hV0 hgn hB HB0 HL1
  go_upto_region 5 with fail
  refine wl <| gz2 (.pointer (some ⟨g0, 0, none⟩)) (.bool false) <| wn ?_
  simp only [pu]
  go_upto_region 7 with fail
  refine wl <| gz2 (.slice none 0 0) (.slice none 0 0) <| wn ?_
  simp only [pu]
  go_wp2_with fail
  go_loopg [5, 6] L.length (fun gg s5 s6 wx => ∃ (N : Nat) (S : Nat → Prop) (m : Sm) (H D : List (Int × Int)) (la : Option Addr) (lc : Nat) (da : Option Addr) (dc : Nat), s5 = .slice la H.length lc ∧ s6 = .slice da D.length dc ∧ gg = L.length - N ∧ Hid (N ≤ 200) ∧ Hid (D.length ≤ N) ∧ Hid (PI m N H D) ∧ Hid (TS w gn a c L B g0 S m (.slice la H.length lc) (.slice da D.length dc) H D N wx))
  case atStart => exact ⟨0, S0, newS 4, [], [], none, 0, none, 0, rfl, rfl, by omega, Lib.hid (by omega), Lib.hid (Nat.le_refl 0), HPI0, HTS0⟩
  case round =>
   obtain ⟨N, S, m, H, D, la, lc, da, dc, rfl, rfl, hg, HNN, HDN, HPI, HTS⟩ := hrel
   clear HTS0 HPI0
   have HGK := Lib.hid hg
   clear hg
   have HHN : Hid (H.length ≤ 512) := Lib.hid (by have := HPI.out.ln; have := HPI.out.wm.len; have := HPI.out.wm.mo; omega)
   by_cases hlt : N < L.length
   ·skip
    go_upto_region 8 with fail
    refine wl <| gz3 (.pointer (some ⟨gn, 0, none⟩)) (.pointer (some ⟨gn, 0, none⟩)) (.pointer (some ⟨gn, 1, none⟩)) <| gzl rfl ⟨gn, 1, none⟩ (.int .i64 N) (HTS.out.nm.1.load (i := 1) rfl (by kernel_rfl)) <| gz2 (.slice a L.length c) (.int .i64 L.length) <|
     gzb (lss_n rfl (N) (L.length) dT) <| wn ?_
    simp only [pu]
    go_upto_region 9 with fail
    refine wl <| gz2 (.pointer (some ⟨g0, 0, none⟩)) (.pointer (some ⟨gn, 0, none⟩)) <|
     gze (fun v w' => ∃ q : Nat, v = .int .i64 q ∧ (q : Int) < 5 ∧ Nm w' gn a c L (N + 1) ∧ But gn wr w') ((nx HTS.out.nm HL.out (by have := HNN.out; omega) 5 (by first | decide | omega) (by first | decide | omega)).mono fun e w' z => by obtain ⟨⟨q, h1, h2, -⟩, h3, h4⟩ := z; exact ⟨_, h1, q, rfl, h2, h3, h4⟩) (fun vv V1 hq => ?_)
    obtain ⟨v2, rfl, hv2, hns2, hbt2⟩ := hq
    have hT1 := HTS.out.num hns2 hbt2
    have CA := q_add (e := eO v2) (d := zAd) hT1.st.rep HPI.out.wm (eO_i _ _) (eO_b _) (fun k hk => (eO_e hk).elim) hT1.st.so hT1.st.bz
    simp only [pu]
    refine gz1 (.agg (enA (eO v2) zAd)) <| gzc (.tuple #[.agg #[.int .i64 (addH m).1, .int .i64 (addH m).2], .bool (addO m)]) (fun w' => UpdS g0 B S (addS m (eO v2)) V1 w') (CA) (fun V2 hu => ?_)
    obtain ⟨S2, hT2⟩ := hT1.upd hu
    obtain ⟨V3, hst3, hb3, hX7⟩ := new_bx (c := #[.int .i64 0, .int .i64 0]) (c' := #[.int .i64 (addH m).1, .int .i64 (addH m).2]) (ty := 33) V2 rfl (by simp [Value.oneCell']) (by kernel_rfl)
    have HT3 := Lib.hid (hT2.below hb3)
    simp only [pu]
    refine gz3 (.tuple #[.agg #[.int .i64 (addH m).1, .int .i64 (addH m).2], .bool (addO m)]) (.agg #[.int .i64 (addH m).1, .int .i64 (addH m).2]) (.bool (addO m)) ?_
    simp only [pu]
    refine run_to rfl (some 7) rfl (.pointer (some ⟨V2.heap.size, 0, none⟩)) (V2.alloc (.cells (#[.int .i64 0, .int .i64 0]) 33)) (by kernel_rfl) ?_
    simp only [pu]
    refine gzs rfl (hst3) <| gz1 (.bool (addO m)) <| wn ?_
    simp only [pu]
    obtain ⟨g7, hg7⟩ : ∃ g, V2.heap.size = g := ⟨_, rfl⟩
    rw [hg7] at hX7 ⊢
    have HX7 := Lib.hid hX7
    obtain ⟨ta, hta⟩ : ∃ b, addO m = b := ⟨_, rfl⟩
    rw [hta]
    have HTA := Lib.hid hta
    clear hst3 hb3 hX7 hg7 hta hT2 hT1 CA hns2 hbt2 hv2 HTS
    go_upto_region 10 with fail
    refine wl <| gz1 (.bool ta) <| wn ?_
    simp only [pu]
    go_upto_if 39 with fail
    go_cut [5] (fun s5 wx => ∃ (S1 : Nat → Prop) (m1 : Sm) (H1 : List (Int × Int)) (la1 : Option Addr) (lc1 : Nat), s5 = .slice la1 H1.length lc1 ∧ Hid (PI m1 (N + 1) H1 D) ∧ Hid (TS w gn a c L B g0 S1 m1 (.slice la1 H1.length lc1) (.slice da D.length dc) H1 D (N + 1) wx))
    case first =>
     cases ta
     ·skip
      go_wp2_with fail
      go_meet
      exact ⟨S2, addS m (eO v2), H, la, lc, rfl, Lib.hid (HPI.out.no HTA.out), HT3⟩
     ·skip
      have hT := HT3.out
      have hbd := build_hn (addH m) V3
      have hb4 : Below V3.heap.size V3 (V3.alloc (.cells (hnA (addH m)) 33)) := (Below.refl _ V3).alloc (Nat.le_refl _) _
      have hXb : Bx (V3.alloc (.cells (hnA (addH m)) 33)) V3.heap.size (hnA (addH m)) 33 := heap_alloc_last V3 _
      obtain ⟨VA, hVA⟩ : ∃ X, V3.alloc (.cells (hnA (addH m)) 33) = X := ⟨_, rfl⟩
      rw [hVA] at hbd hb4 hXb
      have hT4 := hT.below hb4
      obtain ⟨v7, V7, hap7, hO7, hb7, hg7, hat7⟩ := app_hn hT4.rl hT4.st.bz (some ⟨V3.heap.size, 0, none⟩) 1 1 [addH m] (Cs.block (cs := hcs [addH m]) hXb) rfl (by have := HHN.out; omega) (by omega)
      have hT7 := hT4.live hO7 hb7 hg7 hat7
      obtain ⟨a7, c7, rfl, -, -⟩ := hO7.cs
      have HT7 := Lib.hid hT7
      clear hT hb4 hXb hVA hT4 hO7 hb7 hg7 hat7 hT7
      go_upto_region 11 with fail
      refine wl <| gz1 (.slice la H.length lc) <| gzl rfl ⟨g7, 0, none⟩ (.agg #[.int .i64 (addH m).1, .int .i64 (addH m).2]) (load_hn (x := addH m) (bx_range (cs := hnl (addH m)) HX7.out)) ?_
      simp only [pu]
      refine gw_build (by kernel_rfl) (some 42) rfl 36 1 #[(0, .tmp 41)] rfl #[(0, .agg (hnA (addH m)))] (by kernel_rfl) (.slice (some ⟨V3.heap.size, 0, none⟩) 1 1) _ hbd ?_
      simp only [pu]
      refine append_step rfl (some 43) rfl 36 rfl (.tmp 40) (.tmp 42) 36 rfl (.slice la H.length lc) (.slice (some ⟨V3.heap.size, 0, none⟩) 1 1) (.slice a7 (H ++ [addH m]).length c7) V7 (by kernel_rfl) (by kernel_rfl) hap7 ?_
      simp only [pu]
      refine gz1 (.slice a7 (H ++ [addH m]).length c7) <| wn ?_
      simp only [pu]
      clear hbd hap7
      go_wp2_with fail
      go_meet
      exact ⟨S2, addS m (eO v2), H ++ [addH m], a7, c7, rfl, Lib.hid (HPI.out.yes (eO_b _) HTA.out), HT7⟩
    case rest =>
     obtain ⟨S1, m1, H1, la1, lc1, rfl, HPI1, HT1⟩ := hcut
     clear HPI HT3 HHN HX7 HTA
     have HHN : Hid (H1.length ≤ 512) := Lib.hid (by have := HPI1.out.ln; have := HPI1.out.wm.len; have := HPI1.out.wm.mo; omega)
     go_upto_region 12 with fail
     refine wl <| gz3 (.slice la1 H1.length lc1) (.int .i64 H1.length) (.int .i64 H1.length) <| wn ?_
     simp only [pu]
     go_upto_region 13 with fail
     go_cut [52] (fun s52 wx => ∃ (N1 : Nat) (tb : Bool), s52 = .bool tb ∧ Hid (N + 1 ≤ N1 ∧ N1 ≤ N + 2) ∧ Hid (tb = true → 0 < H1.length) ∧ Hid (TS w gn a c L B g0 S1 m1 (.slice la1 H1.length lc1) (.slice da D.length dc) H1 D N1 wx))
     case first =>
      by_cases hn0 : 0 < H1.length
      ·skip
       refine wl <| gz1 (.int .i64 H1.length) <| gzb (gtr_n rfl (H1.length) (0) dT) <| gz2 (.bool true) (.pointer (some ⟨gn, 0, none⟩)) <|
        gze (fun v w' => ∃ q : Nat, v = .int .i64 q ∧ (q : Int) < 2 ∧ Nm w' gn a c L ((N + 1) + 1) ∧ But gn wc w') ((nx HT1.out.nm HL.out (by have := HNN.out; omega) 2 (by first | decide | omega) (by first | decide | omega)).mono fun e w' z => by obtain ⟨⟨q, h1, h2, -⟩, h3, h4⟩ := z; exact ⟨_, h1, q, rfl, h2, h3, h4⟩) (fun vv V5 hq => ?_)
       obtain ⟨v4, rfl, hv4, hns4, hbt4⟩ := hq
       have HT5 := Lib.hid (HT1.out.num hns4 hbt4)
       simp only [pu]
       clear hns4 hbt4
       by_cases hv0 : v4 < 1
       ·skip
        refine gzb (eql_n rfl (v4) (0) dT) <| gz1 (.bool true) <| wn ?_
        simp only [pu]
        go_wp2_with fail
        go_meet
        exact ⟨N + 1 + 1, true, rfl, Lib.hid (by omega), Lib.hid (fun _ => hn0), HT5⟩
       ·skip
        refine gzb (eql_n rfl (v4) (0) dF) <| gz1 (.bool false) <| wn ?_
        simp only [pu]
        go_wp2_with fail
        go_meet
        exact ⟨N + 1 + 1, false, rfl, Lib.hid (by omega), Lib.hid (fun _ => hn0), HT5⟩
      ·skip
       refine wl <| gz1 (.int .i64 H1.length) <| gzb (gtr_n rfl (H1.length) (0) dF) <| gz5 (.bool false) undef undef undef (.bool false) <| wn ?_
       simp only [pu]
       go_wp2_with fail
       go_meet
       exact ⟨N + 1, false, rfl, Lib.hid (by omega), Lib.hid (fun h => nomatch h), HT1⟩
     case rest =>
      obtain ⟨N1, tb, rfl, HN1, HTB, HT5⟩ := hcut
      clear HT1
      go_upto_if 52 with fail
      go_cut [5, 6, 10] (fun s5 s6 s10 wx => ∃ (N2 : Nat) (S2 : Nat → Prop) (m2 : Sm) (H2 D2 : List (Int × Int)) (la2 : Option Addr) (lc2 : Nat) (da2 : Option Addr) (dc2 : Nat) (v10 : Value), s5 = .slice la2 H2.length lc2 ∧ s6 = .slice da2 D2.length dc2 ∧ s10 = v10 ∧ Hid (N + 1 ≤ N2 ∧ N2 ≤ N + 3) ∧ Hid (D2.length ≤ N2) ∧ Hid (PI m2 (N + 1) H2 D2) ∧ Hid (TS w gn a c L B g0 S2 m2 (.slice la2 H2.length lc2) (.slice da2 D2.length dc2) H2 D2 N2 wx))
      case first =>
       cases tb
       ·skip
        go_wp2_with fail
        go_meet
        exact ⟨N1, S1, m1, H1, D, la1, lc1, da, dc, _, rfl, rfl, rfl, Lib.hid (by have := HN1.out; omega), Lib.hid (by have := HN1.out; have := HDN.out; omega), HPI1, HT5⟩
       ·skip
        have hn0 := HTB.out rfl
        go_upto_region 14 with fail
        refine wl <| gz2 (.pointer (some ⟨gn, 0, none⟩)) (.int .i64 H1.length) <|
         gze (fun v w' => ∃ q : Nat, v = .int .i64 q ∧ (q : Int) < (H1.length : Int) ∧ Nm w' gn a c L (N1 + 1) ∧ But gn wc w') ((nx HT5.out.nm HL.out (by have := HNN.out; have := HN1.out; omega) H1.length (by omega) (by have := HHN.out; omega)).mono fun e w' z => by obtain ⟨⟨q, h1, h2, -⟩, h3, h4⟩ := z; exact ⟨_, h1, q, rfl, h2, h3, h4⟩) (fun vv V6 hq => ?_)
        obtain ⟨v5, rfl, hv5, hns5, hbt5⟩ := hq
        have hT6 := HT5.out.num hns5 hbt5
        simp only [pu]
        refine gz1 (.int .i64 v5) <| wn ?_
        simp only [pu]
        have hv5n : v5 < H1.length := by omega
        obtain ⟨q1, hq1⟩ : ∃ q, H1.getD v5 (0, 0) = q := ⟨_, rfl⟩
        have hcs := (own_nc hT6.rl).1
        obtain ⟨b, off, hab, -, hrg⟩ := fl_range hnl hn_len (by omega) ((0 : Int), (0 : Int)) hcs (i := v5) hv5n
        obtain rfl := hab
        rw [hq1] at hrg
        have HQ1 := Lib.hid hq1
        have hval : valS m1 q1 = true := HPI1.out.at hv5n hq1
        have CR := q_rem q1 hT6.st.rep HPI1.out.wm (by have := HNN.out; omega) hT6.st.so hT6.st.bz
        rw [hval] at CR
        clear hq1 hval hcs hns5 hbt5 hv5
        go_upto_region 15 with fail
        refine wl <| gz3 (.pointer (some ⟨g0, 0, none⟩)) (.slice (some ⟨b, off, none⟩) H1.length lc1) (.int .i64 v5) <| gzv (.pointer (some ⟨b, off + v5 * 2, none⟩)) (idx_hn b off H1.length lc1 v5 hv5n _ _ _ rfl (by kernel_rfl) (by kernel_rfl)) <|
         gzl rfl ⟨b, off + v5 * 2, none⟩ (.agg #[.int .i64 q1.1, .int .i64 q1.2]) (load_hn hrg) <| gzc (.bool true) (fun w' => UpdS g0 B S1 (remS m1 q1) V6 w') (CR) (fun V7 hu => ?_)
        obtain ⟨S7, hT7⟩ := hT6.upd hu
        simp only [pu]
        refine gz1 (.bool false) <| wn ?_
        simp only [pu]
        have hcs7 := (own_nc hT7.rl).1
        obtain ⟨b2, off2, hab2, -, hrg7⟩ := fl_range hnl hn_len (by omega) ((0 : Int), (0 : Int)) hcs7 (i := v5) hv5n
        simp only [Option.some.injEq, Addr.mk.injEq, and_true] at hab2
        obtain ⟨rfl, rfl⟩ := hab2
        rw [HQ1.out] at hrg7
        have hbd := build_hn q1 V7
        have hb8 : Below V7.heap.size V7 (V7.alloc (.cells (hnA q1) 33)) := (Below.refl _ V7).alloc (Nat.le_refl _) _
        have hXb : Bx (V7.alloc (.cells (hnA q1) 33)) V7.heap.size (hnA q1) 33 := heap_alloc_last V7 _
        obtain ⟨VA, hVA⟩ : ∃ X, V7.alloc (.cells (hnA q1) 33) = X := ⟨_, rfl⟩
        rw [hVA] at hbd hb8 hXb
        have hT8 := hT7.below hb8
        obtain ⟨vd, Vd, hapd, hOd, hbd9, hgd, hatd⟩ := app_hn hT8.rd hT8.st.bz (some ⟨V7.heap.size, 0, none⟩) 1 1 [q1] (Cs.block (cs := hcs [q1]) hXb) rfl (by have := HDN.out; have := HNN.out; omega) (by omega)
        have hT9 := hT8.dead hOd hbd9 hgd hatd
        obtain ⟨a9, c9, rfl, -, -⟩ := hOd.cs
        obtain ⟨D9, hD9⟩ : ∃ M, D ++ [q1] = M := ⟨_, rfl⟩
        rw [hD9] at hapd hT9
        have HD9 := Lib.hid hD9
        have HT9 := Lib.hid hT9
        clear hT6 CR hrg hT7 hcs7 hb8 hXb hVA hT8 hOd hbd9 hgd hatd hT9 HT5 hD9
        go_upto_region 17 with fail
        refine wl <| gz3 (.slice da D.length dc) (.slice (some ⟨b, off, none⟩) H1.length lc1) (.int .i64 v5) <| gzv (.pointer (some ⟨b, off + v5 * 2, none⟩)) (idx_hn b off H1.length lc1 v5 hv5n _ _ _ rfl (by kernel_rfl) (by kernel_rfl)) <|
         gzl rfl ⟨b, off + v5 * 2, none⟩ (.agg #[.int .i64 q1.1, .int .i64 q1.2]) (load_hn hrg7) ?_
        simp only [pu]
        refine gw_build (by kernel_rfl) (some 68) rfl 36 1 #[(0, .tmp 67)] rfl #[(0, .agg (hnA q1))] (by kernel_rfl) (.slice (some ⟨V7.heap.size, 0, none⟩) 1 1) _ hbd ?_
        simp only [pu]
        refine append_step rfl (some 69) rfl 36 rfl (.tmp 63) (.tmp 68) 36 rfl (.slice da D.length dc) (.slice (some ⟨V7.heap.size, 0, none⟩) 1 1) (.slice a9 D9.length c9) Vd (by kernel_rfl) (by kernel_rfl) hapd ?_
        simp only [pu]
        refine gz1 (.slice a9 D9.length c9) <| wn ?_
        simp only [pu]
        clear hbd hapd hrg7
        have hnc := own_nc HT9.out.rl
        have HLN : Hid (v5 < H1.length ∧ H1.length ≤ lc1 ∧ H1.length ≤ 512) := Lib.hid ⟨hv5n, hnc.2, HHN.out⟩
        have HCT : Hid (Cs Vd (some ⟨b, off, none⟩) (hcs (H1.take v5))) := Lib.hid (by rw [hcs_take]; exact hnc.1.take _)
        have HCD : Hid (Cs Vd (fromS 2 (some ⟨b, off, none⟩) lc1 (v5 + 1)) (hcs (H1.drop (v5 + 1)))) := Lib.hid (by rw [hcs_drop]; exact hnc.1.from 2 lc1 (v5 + 1) (by rw [show (hcs H1).length = H1.length * 2 from fl_len hnl hn_len H1]; omega))
        clear hnc
        have h0 := KS.start (W := Vd) (F := H1.take v5) (G := H1.drop (v5 + 1)) (x0 := u70) (x4 := u74) (x9 := u79)
        go_upto_region 18 with fail
        refine wp_region_inv (fun listed act9 V => ∃ b0 b1 b2 b3 b4 b5 b6 b7 b8 b9 b10 : Bool, ∃ x70 x74 x79 : Value, listed = #[b0, b1, b2, b3, b4, b5, b6, b7, b8, b9, b10] ∧ act9 = { tmps := #[.slice a L.length c, undef, u2, .pointer (some ⟨gn, 0, none⟩), .pointer (some ⟨g0, 0, none⟩), (cond b10 (x79) (.slice (some ⟨b, off, none⟩) H1.length lc1)), .slice a9 D9.length c9, .pointer (some ⟨g7, 0, none⟩), .bool ta, .int .i64 H1.length, .int .i64 v5, undef, u12, u13, u14, .slice a L.length c, .slice (some ⟨w.heap.size, 0, none⟩) 1 1, .bool false, undef, .slice a L.length c, .pointer (some ⟨gn, 0, none⟩), .pointer (some ⟨g0, 0, none⟩), .pointer (some ⟨g0, 0, none⟩), .bool false, u24, u25, u26, u27, u28, u29, u30, u31, u32, u33, u34, u35, u36, u37, u38, u39, u40, u41, u42, u43, u44, u45, u46, u47, u48, u49, u50, u51, .bool true, .pointer (some ⟨gn, 0, none⟩), .int .i64 H1.length, .int .i64 v5, .pointer (some ⟨g0, 0, none⟩), .slice (some ⟨b, off, none⟩) H1.length lc1, .int .i64 v5, .pointer (some ⟨b, off + v5 * 2, none⟩), .agg #[.int .i64 q1.1, .int .i64 q1.2], .bool true, .bool false, .slice da D.length dc, .slice (some ⟨b, off, none⟩) H1.length lc1, .int .i64 v5, .pointer (some ⟨b, off + v5 * 2, none⟩), .agg #[.int .i64 q1.1, .int .i64 q1.2], .slice (some ⟨V7.heap.size, 0, none⟩) 1 1, .slice a9 D9.length c9, x70, (cond b1 (.slice (some ⟨b, off, none⟩) H1.length lc1) (u71)), (cond b2 (.int .i64 v5) (u72)), (cond b3 (.slice (some ⟨b, off, none⟩) v5 lc1) (u73)), x74, (cond b5 (.slice (some ⟨b, off, none⟩) H1.length lc1) (u75)), (cond b6 (.int .i64 v5) (u76)), (cond b7 (.int .i64 (v5 + 1 : Nat)) (u77)), (cond b8 (.slice (fromS 2 (some ⟨b, off, none⟩) lc1 (v5 + 1)) (H1.length - (v5 + 1)) (lc1 - (v5 + 1))) (u78)), x79, u80, u81, u82, u83, u84, u85, u86, u87, u88, u89, u90, u91, u92, u93, undef, undef, undef, undef, undef, undef, undef, undef], defers := [] } ∧ KS Vd (H1.take v5) (H1.drop (v5 + 1)) b0 b1 b3 b4 b5 b8 b9 b10 x70 x74 x79 V) (by kernel_rfl) (by kernel_rfl) ?_ ?_ ?_
        ·exact ⟨false, false, false, false, false, false, false, false, false, false, false, u70, u74, u79, rfl, rfl, h0⟩
        ·intro i9 listed act9 V hi9 hr hJ
         obtain ⟨b0, b1, b2, b3, b4, b5, b6, b7, b8, b9, b10, x70, x74, x79, rfl, rfl, hF⟩ := hJ
         have hi2 : i9 < 11 := hi9
         have hi3 : i9 = 0 ∨ i9 = 1 ∨ i9 = 2 ∨ i9 = 3 ∨ i9 = 4 ∨ i9 = 5 ∨ i9 = 6 ∨ i9 = 7 ∨ i9 = 8 ∨ i9 = 9 ∨ i9 = 10 := by omega
         rcases hi3 with rfl | rfl | rfl | rfl | rfl | rfl | rfl | rfl | rfl | rfl | rfl
         ·obtain rfl : b0 = false := ready_self hr
          obtain ⟨rfl, rfl, rfl⟩ := hF.n0
          refine st_build rfl (by kernel_rfl) (some 70) rfl 36 0 #[] rfl #[] (by kernel_rfl) (.slice (some ⟨V.heap.size, 0, none⟩) 0 0) _ (nil_hn V) ?_
          exact ⟨true, b1, b2, b3, false, b5, b6, b7, b8, false, false, _, _, _, rfl, rfl, hF.nil⟩
         ·obtain rfl : b1 = false := ready_self hr
          obtain ⟨rfl, rfl, rfl, rfl⟩ := hF.n1
          refine st_val rfl (by kernel_rfl) (some 71) rfl (.slice (some ⟨b, off, none⟩) H1.length lc1) V (by kernel_rfl) ?_
          exact ⟨b0, true, b2, false, false, b5, b6, b7, b8, false, false, _, _, _, rfl, rfl, hF.s1⟩
         ·obtain rfl : b2 = false := ready_self hr
          refine st_val rfl (by kernel_rfl) (some 72) rfl (.int .i64 v5) V (by kernel_rfl) ?_
          exact ⟨b0, b1, true, b3, b4, b5, b6, b7, b8, b9, b10, x70, x74, x79, rfl, rfl, hF⟩
         ·obtain rfl : b3 = false := ready_self hr
          obtain rfl : b1 = true := ready_dep hr 1 (by kernel_rfl)
          obtain rfl : b2 = true := ready_dep hr 2 (by kernel_rfl)
          obtain ⟨rfl, rfl, rfl⟩ := hF.n3
          refine st_slice_to rfl (by kernel_rfl) (some 73) rfl 36 (.tmp 71) (.tmp 72) rfl (.slice (some ⟨b, off, none⟩) H1.length lc1) (.int .i64 v5) (.slice (some ⟨b, off, none⟩) v5 lc1) (by kernel_rfl) (by kernel_rfl) (cut_hn_to (some ⟨b, off, none⟩) H1.length lc1 v5 V (by have := HLN.out; omega)) ?_
          exact ⟨b0, true, true, true, false, b5, b6, b7, b8, false, false, _, _, _, rfl, rfl, hF.s3⟩
         ·obtain rfl : b4 = false := ready_self hr
          obtain rfl : b0 = true := ready_dep hr 0 (by kernel_rfl)
          obtain rfl : b3 = true := ready_dep hr 3 (by kernel_rfl)
          obtain ⟨rfl, rfl⟩ := hF.n4
          obtain ⟨v9, V9, hap9, hO9, hb9, -, -⟩ := app_hn (hF.r0 rfl rfl) hF.bel.size (some ⟨b, off, none⟩) v5 lc1 (H1.take v5) (HCT.out.below hF.bel) (by rw [List.length_take]; have := HLN.out; omega) (by simp) (by have := HLN.out; omega)
          refine st_append rfl (by kernel_rfl) (some 74) rfl 36 rfl (.tmp 70) (.tmp 73) 36 rfl x70 (.slice (some ⟨b, off, none⟩) v5 lc1) v9 V9 (by kernel_rfl) (by kernel_rfl) hap9 ?_
          exact ⟨true, b1, b2, true, true, b5, b6, b7, b8, false, false, _, _, _, rfl, rfl, hF.s4 (by simpa using hO9) hb9⟩
         ·obtain rfl : b5 = false := ready_self hr
          obtain ⟨rfl, rfl, rfl⟩ := hF.n5
          refine st_val rfl (by kernel_rfl) (some 75) rfl (.slice (some ⟨b, off, none⟩) H1.length lc1) V (by kernel_rfl) ?_
          exact ⟨b0, b1, b2, b3, b4, true, b6, b7, false, false, false, _, _, _, rfl, rfl, hF.s5⟩
         ·obtain rfl : b6 = false := ready_self hr
          refine st_val rfl (by kernel_rfl) (some 76) rfl (.int .i64 v5) V (by kernel_rfl) ?_
          exact ⟨b0, b1, b2, b3, b4, b5, true, b7, b8, b9, b10, x70, x74, x79, rfl, rfl, hF⟩
         ·obtain rfl : b7 = false := ready_self hr
          obtain rfl : b6 = true := ready_dep hr 6 (by kernel_rfl)
          refine st_val rfl (by kernel_rfl) (some 77) rfl (.int .i64 (v5 + 1 : Nat)) V (add_one rfl v5 (by have := HLN.out; omega) (by kernel_rfl) _) ?_
          exact ⟨b0, b1, b2, b3, b4, b5, true, true, b8, b9, b10, x70, x74, x79, rfl, rfl, hF⟩
         ·obtain rfl : b8 = false := ready_self hr
          obtain rfl : b5 = true := ready_dep hr 5 (by kernel_rfl)
          obtain rfl : b7 = true := ready_dep hr 7 (by kernel_rfl)
          obtain ⟨rfl, rfl⟩ := hF.n8
          refine st_slice_from rfl (by kernel_rfl) (some 78) rfl 36 (.tmp 75) (.tmp 77) rfl (.slice (some ⟨b, off, none⟩) H1.length lc1) (.int .i64 (v5 + 1 : Nat)) (.slice (fromS 2 (some ⟨b, off, none⟩) lc1 (v5 + 1)) (H1.length - (v5 + 1)) (lc1 - (v5 + 1))) (by kernel_rfl) (by kernel_rfl) (cut_hn_from (some ⟨b, off, none⟩) H1.length lc1 (v5 + 1) V (by have := HLN.out; omega)) ?_
          exact ⟨b0, b1, b2, b3, b4, true, b6, true, true, false, false, _, _, _, rfl, rfl, hF.s8⟩
         ·obtain rfl : b9 = false := ready_self hr
          obtain rfl : b4 = true := ready_dep hr 4 (by kernel_rfl)
          obtain rfl : b8 = true := ready_dep hr 8 (by kernel_rfl)
          obtain rfl := hF.n9
          obtain ⟨v9, V9, hap9, hO9, hb9, -, -⟩ := app_hn (hF.r4 rfl rfl) hF.bel.size (fromS 2 (some ⟨b, off, none⟩) lc1 (v5 + 1)) (H1.length - (v5 + 1)) (lc1 - (v5 + 1)) (H1.drop (v5 + 1)) (HCD.out.below hF.bel) (by rw [List.length_drop]) (by rw [List.length_take]; have := HLN.out; omega) (by have := HLN.out; omega)
          refine st_append rfl (by kernel_rfl) (some 79) rfl 36 rfl (.tmp 74) (.tmp 78) 36 rfl x74 (.slice (fromS 2 (some ⟨b, off, none⟩) lc1 (v5 + 1)) (H1.length - (v5 + 1)) (lc1 - (v5 + 1))) v9 V9 (by kernel_rfl) (by kernel_rfl) hap9 ?_
          exact ⟨b0, b1, b2, b3, true, b5, b6, b7, true, true, false, _, _, _, rfl, rfl, hF.s9 hO9 hb9⟩
         ·obtain rfl : b10 = false := ready_self hr
          obtain rfl : b9 = true := ready_dep hr 9 (by kernel_rfl)
          refine st_val rfl (by kernel_rfl) (some 5) rfl x79 V (by kernel_rfl) ?_
          exact ⟨b0, b1, b2, b3, b4, b5, b6, b7, b8, true, true, _, _, _, rfl, rfl, hF.s10⟩
        ·intro act9 V hJ
         obtain ⟨b0, b1, b2, b3, b4, b5, b6, b7, b8, b9, b10, x70, x74, x79, he, rfl, hF⟩ := hJ
         have he : (#[true, true, true, true, true, true, true, true, true, true, true] : Array Bool) = #[b0, b1, b2, b3, b4, b5, b6, b7, b8, b9, b10] := he
         simp only [Array.mk.injEq, List.cons.injEq, and_true] at he
         obtain ⟨rfl, rfl, rfl, rfl, rfl, rfl, rfl, rfl, rfl, rfl, rfl⟩ := he
         simp only [cond_true]
         have hO := hF.r9 rfl
         obtain ⟨H9, hH9⟩ : ∃ M, H1.take v5 ++ H1.drop (v5 + 1) = M := ⟨_, rfl⟩
         rw [hH9] at hO
         have HH9 := Lib.hid hH9
         have hTE := HT9.out.fresh hF.bel hO
         obtain ⟨a11, c11, rfl, -, -⟩ := hO.cs
         have HTE := Lib.hid hTE
         clear hF hO hTE hH9
         go_wp2_with fail
         go_meet
         exact ⟨N1 + 1, S7, remS m1 q1, H9, D9, a11, c11, a9, c9, _, rfl, rfl, rfl, Lib.hid (by have := HN1.out; omega), Lib.hid (by rw [← HD9.out, List.length_append]; have := HN1.out; have := HDN.out; show D.length + 1 ≤ N1 + 1; omega), Lib.hid (by rw [← HD9.out, ← HH9.out]; exact HPI1.out.rem hv5n HQ1.out), HTE⟩
      case rest =>
       obtain ⟨N2, S2, m2, H2, D2, la2, lc2, da2, dc2, v10, rfl, rfl, h10, HN2, HDN2, HPI2, HT2⟩ := hcut
       obtain rfl := h10.symm
       clear HT5 HPI1 HHN HTB HN1
       go_upto_region 19 with fail
       refine wl <| gz3 (.slice da2 D2.length dc2) (.int .i64 D2.length) (.int .i64 0) <| wn ?_
       simp only [pu]
       go_wp2_with fail
       go_loopg [82] D2.length (fun gg s82 wx => ∃ (i : Nat), s82 = .int .i64 i ∧ i ≤ D2.length ∧ gg + i = D2.length ∧ Hid (TS w gn a c L B g0 S2 m2 (.slice la2 H2.length lc2) (.slice da2 D2.length dc2) H2 D2 N2 wx))
       case atStart => exact ⟨0, rfl, by omega, by omega, HT2⟩
       case round =>
        obtain ⟨i, rfl, hin, hg, HTW⟩ := hrel
        clear HT2
        have HGI : Hid (gk + i = D2.length) := Lib.hid hg
        clear hg
        by_cases hlt2 : i < D2.length
        ·skip
         have hcsd := (own_nc HTW.out.rd).1
         obtain ⟨bd, od, e8, -, hrg⟩ := fl_range hnl hn_len (by omega) ((0 : Int), (0 : Int)) hcsd hlt2
         obtain rfl := e8
         obtain ⟨p9, hp9⟩ : ∃ q, D2.getD i (0, 0) = q := ⟨_, rfl⟩
         rw [hp9] at hrg
         have hdv : valS m2 p9 = false := (HPI2.out.dd p9 (by rw [← hp9, List.getD_eq_getElem?_getD, List.getElem?_eq_getElem hlt2]; exact List.getElem_mem hlt2)).val
         have HDV := Lib.hid hdv
         obtain ⟨V8, hst8, hb8, hX12⟩ := new_bx (c := #[.int .i64 0, .int .i64 0]) (c' := #[.int .i64 p9.1, .int .i64 p9.2]) (ty := 33) wr rfl (by simp [Value.oneCell']) (by kernel_rfl)
         have HT8 := Lib.hid (HTW.out.below hb8)
         obtain ⟨g12, hg12⟩ : ∃ g, wr.heap.size = g := ⟨_, rfl⟩
         clear hp9 hdv hcsd
         go_upto_region 20 with fail
         refine wl <| gzb (lss_n rfl (i) (D2.length) dT) <| wn ?_
         simp only [pu]
         go_upto_region 21 with fail
         refine wl <| gzv (.pointer (some ⟨bd, od + i * 2, none⟩)) (idx_hn bd od D2.length dc2 i hlt2 _ _ _ rfl (by kernel_rfl) (by kernel_rfl)) <| gzl rfl ⟨bd, od + i * 2, none⟩ (.agg #[.int .i64 p9.1, .int .i64 p9.2]) (load_hn hrg) ?_
         simp only [pu]
         refine run_to rfl (some 12) rfl (.pointer (some ⟨wr.heap.size, 0, none⟩)) (wr.alloc (.cells (#[.int .i64 0, .int .i64 0]) 33)) (by kernel_rfl) ?_
         simp only [pu]
         refine gzs rfl (hst8) <| wn ?_
         rw [hg12] at hX12 ⊢
         clear hst8 hb8 hg12 hrg HTW
         have CG := q_get p9 HT8.out.st.rep HPI2.out.wm
         rw [HDV.out] at CG
         go_upto_region 22 with fail
         refine wl <| gz1 (.pointer (some ⟨g0, 0, none⟩)) <| gzl rfl ⟨g12, 0, none⟩ (.agg #[.int .i64 p9.1, .int .i64 p9.2]) (load_hn (x := p9) (bx_range (cs := hnl p9) hX12)) <|
          gze (fun v w' => ∃ d, v = .tuple #[.agg (enA (getS m2 p9) d), .bool false] ∧ Below V8.heap.size V8 w') (CG.mono fun r w' z => by obtain ⟨d, z1, z2, z3⟩ := z; exact ⟨_, z1, d, rfl, z3⟩) (fun vv V9 hq => ?_)
         obtain ⟨d1, rfl, hb9⟩ := hq
         obtain ⟨V10, hst10, hb10, hX13⟩ := new_bx (c := enA zEn zAd) (c' := enA (getS m2 p9) d1) (ty := 44) V9 rfl (enA_one _ _) (by kernel_rfl)
         have HT10 := Lib.hid (HT8.out.below (hb9.trans (hb10.mono hb9.size)))
         simp only [pu]
         refine gz3 (.tuple #[.agg (enA (getS m2 p9) d1), .bool false]) (.agg (enA (getS m2 p9) d1)) (.bool false) ?_
         simp only [pu]
         refine run_to rfl (some 13) rfl (.pointer (some ⟨V9.heap.size, 0, none⟩)) (V9.alloc (.cells (enA zEn zAd) 44)) (by kernel_rfl) ?_
         simp only [pu]
         refine gzs rfl (hst10) <| gz1 (.bool false) <| wn ?_
         simp only [pu]
         clear hst10 hb10 hb9 hX13 hX12 CG HT8 HDV
         go_upto_region 23 with fail
         refine wl <| gz1 (.bool false) <| wn ?_
         simp only [pu]
         go_upto_region 25 with fail
         refine wl <| gzv (.int .i64 (i + 1 : Nat)) (add_one rfl i (by have := HDN2.out; have := HN2.out; have := HNN.out; omega) (by kernel_rfl) _) <| gz1 (.int .i64 (i + 1 : Nat)) <| wn ?_
         simp only [pu]
         go_wp2_with fail
         go_roundg (D2.length - (i + 1))
         case measure => have := HGI.out; omega
         case rel => exact ⟨i + 1, rfl, by omega, by omega, HT10⟩
        ·skip
         obtain rfl : i = D2.length := by omega
         go_upto_region 20 with fail
         refine wl <| gzb (lss_n rfl (D2.length) (D2.length) dF) <| wn ?_
         simp only [pu]
         go_wp2_with fail
         go_roundg (L.length - N2)
         case measure => have := HGK.out; have := HN2.out; omega
         case rel => exact ⟨N2, S2, m2, H2, D2, la2, lc2, da2, dc2, rfl, rfl, rfl, Lib.hid (by have := HN2.out; have := HLL.out; omega), HDN2, Lib.hid (HPI2.out.mono (by have := HN2.out; omega)), HTW⟩
   ·skip
    go_upto_region 8 with fail
    refine wl <| gz3 (.pointer (some ⟨gn, 0, none⟩)) (.pointer (some ⟨gn, 0, none⟩)) (.pointer (some ⟨gn, 1, none⟩)) <| gzl rfl ⟨gn, 1, none⟩ (.int .i64 N) (HTS.out.nm.1.load (i := 1) rfl (by kernel_rfl)) <| gz2 (.slice a L.length c) (.int .i64 L.length) <|
     gzb (lss_n rfl (N) (L.length) dF) <| wn ?_
    simp only [pu]
    have CL := r_len HTS.out.st.rep
    rw [← HPI.out.ln] at CL
    have CK := known_true wr
    go_upto_region 26 with fail
    refine wl <| gz1 (.pointer (some ⟨g0, 0, none⟩)) <| gzc (.int .i64 H.length) (fun w' => wr = w') (CL) (fun V9 hV9 => ?_)
    subst hV9
    simp only [pu]
    refine gz2 (.slice la H.length lc) (.int .i64 H.length) <| gzb (eql_n rfl (H.length) (H.length) (decide_eq_true (rfl))) <| gz1 (.bool true) <| gzc (.bool true) (fun w' => Below wr.heap.size wr w') (CK) (fun V2 hV2 => ?_)
    simp only [pu]
    refine gz2 (.bool true) (.bool true) <| wn ?_
    simp only [pu]
    have HE := HTS.out.st.bel.trans (hV2.mono HTS.out.st.bel.size)
    go_wp2_with fail
    go_ret
    exact ⟨rfl, HE⟩
end Go.Proofs.Ytmpajgaanghpoaa
