/-
 The walk of ExpiryStays.
-/
import Derived.Test.YtdjphghoollejaaWP
namespace Go.Proofs.Ytdjphghoollejaa
attribute [local irreducible] wpList wpQuiet
open Go.RowKit
set_option maxRecDepth 100000
set_option linter.unusedSimpArgs false
set_option linter.unusedVariables false

/-- What the second loop keeps. -/
structure KS2 (w : World) (g0 : Nat) (S : Nat → Prop) (bl sp : Int) (m : List Wt) (a1 : Option Addr) (A : List Int) (a2 : Option Addr) (D : List Int) (V : World) : Prop where
 rep : RepQ V g0 S bl sp m
 ca : Cs V a1 (icells A)
 cb : Cs V a2 (icells D)
 bel : Below w.heap.size w V
theorem KS2.below {w : World} {g0 : Nat} {S : Nat → Prop} {bl sp : Int} {m : List Wt} {a1 : Option Addr} {A : List Int} {a2 : Option Addr} {D : List Int} {V V2 : World} (h : KS2 w g0 S bl sp m a1 A a2 D V) (hb : Below V.heap.size V V2) : KS2 w g0 S bl sp m a1 A a2 D V2 := ⟨h.rep.below hb, h.ca.below hb, h.cb.below hb, h.bel.trans (hb.mono h.bel.size)⟩
set_option maxRecDepth 100000 in
set_option maxHeartbeats 8000000 in
theorem stays_core (a : Option Addr) (c : Nat) (L : List Int) (y1 y2 y3 y4 : Int) (w : World) (hl : L.length ≤ 9223372036854775807) (hr : Cs w a (icells L)) : Calls Try.prog 4 #[.slice a L.length c, .int .i64 y1, .int .i64 y2, .int .i64 y3, .int .i64 y4] w fun e w' => e = .returned (.bool true) ∧ Below w.heap.size w w' := by
 have HR := Lib.hid hr
 clear hr
 go_enter Try.func4, Try.ntmps4
 go_upto_region 1 with fail
 have hbd := one_row a L.length c w
 have hXl : Bx (w.alloc (.cells #[.slice a L.length c] 22)) w.heap.size #[.slice a L.length c] 22 := heap_alloc_last w _
 have hbl : Below w.heap.size w (w.alloc (.cells #[.slice a L.length c] 22)) := (Below.refl _ w).alloc (Nat.le_refl _) _
 have CL := long_one w.heap.size a L.length c _ hXl hl
 generalize w.alloc (.cells #[.slice a L.length c] 22) = W1 at *
 have HB1 := Lib.hid hbl
 clear hXl hbl
 by_cases hlong : 160 < L.length
 ·skip
  rw [decide_eq_true (by omega)] at CL
  refine wl <| gz1 (.slice a L.length c) ?_
  simp only [pu]
  refine gw_build (by kernel_rfl) (some 20) rfl 50 1 #[(0, .tmp 19)] rfl #[(0, .slice a L.length c)] (by kernel_rfl) (.slice (some ⟨w.heap.size, 0, none⟩) 1 1) _ hbd ?_
  simp only [pu]
  refine gzc (.bool true) (fun w' => W1 = w') (CL) (fun V9 hV9 => ?_)
  subst hV9
  simp only [pu]
  apply wpList_nil
  clear CL hbd
  have CK := known_true W1
  go_upto_region 2 with fail
  refine wl <| gzc (.bool true) (fun w' => Below W1.heap.size W1 w') (CK) (fun V8 hV8 => ?_)
  simp only [pu]
  refine gz1 (.bool true) <| wn ?_
  simp only [pu]
  have HE := HB1.out.trans (hV8.mono HB1.out.size)
  go_wp2_with fail
  go_ret
  exact ⟨rfl, HE⟩
 ·skip
  rw [decide_eq_false (by omega)] at CL
  have hlong : L.length ≤ 160 := by omega
  refine wl <| gz1 (.slice a L.length c) ?_
  simp only [pu]
  refine gw_build (by kernel_rfl) (some 20) rfl 50 1 #[(0, .tmp 19)] rfl #[(0, .slice a L.length c)] (by kernel_rfl) (.slice (some ⟨w.heap.size, 0, none⟩) 1 1) _ hbd ?_
  simp only [pu]
  refine gzc (.bool false) (fun w' => W1 = w') (CL) (fun V9 hV9 => ?_)
  subst hV9
  simp only [pu]
  apply wpList_nil
  clear CL hbd
  have HLL : Hid (L.length ≤ 160) := Lib.hid hlong
  have HL : Hid (L.length ≤ 100000) := Lib.hid (by omega)
  have HR1 := Lib.hid (HR.out.below HB1.out)
  have CF := mk_from a L.length c W1
  clear hlong HR hl
  go_upto_region 3 with fail
  refine wl <| gz1 (.slice a L.length c) <| gze (fun v w' => v = .pointer (some ⟨W1.heap.size, 0, none⟩) ∧ w' = W1.alloc (.cells #[.slice a L.length c, .int .i64 0] 32)) (CF.mono fun e w' z => ⟨_, z.1, rfl, z.2⟩) (fun vv V0 hq => ?_)
  obtain ⟨rfl, hV0⟩ := hq
  have hb0 : Below W1.heap.size W1 V0 := by rw [hV0]; exact (Below.refl _ W1).alloc (Nat.le_refl _) _
  have hXn : Bx V0 W1.heap.size #[.slice a L.length c, .int .i64 (0 : Nat)] 32 := by rw [hV0]; exact heap_alloc_last W1 _
  obtain ⟨gn, hgn⟩ : ∃ g, W1.heap.size = g := ⟨_, rfl⟩
  rw [hgn] at hXn ⊢
  have hnm : Nm V0 gn a c L 0 := ⟨hXn, HR1.out.below hb0, fun hne x hx => by
   obtain ⟨b, off, e2, hb, -⟩ := HR1.out 0 _ (icells_at L 0 (List.length_pos_iff.2 hne))
   rw [hx] at e2; cases e2; rw [hgn] at hb; exact hb⟩
  have HGN : Hid (w.heap.size ≤ gn ∧ gn < V0.heap.size) := Lib.hid ⟨by rw [← hgn]; exact HB1.out.size, hnm.lt⟩
  have HNM := Lib.hid hnm
  have HB0 := Lib.hid (HB1.out.trans (hb0.mono HB1.out.size))
  clear hV0 hb0 hXn hgn hnm CF HR1 HB1
  simp only [pu]
  refine gz1 (.pointer (some ⟨gn, 0, none⟩)) <| wn ?_
  simp only [pu]
  go_upto_region 4 with fail
  refine wl <| gz1 (.pointer (some ⟨gn, 0, none⟩)) <| gze (fun v w' => ∃ q : Nat, v = .int .i64 q ∧ (q : Int) < 4 ∧ Nm w' gn a c L (0 + 1) ∧ But gn V0 w') (nx2 HNM.out HL.out (by decide) 4 (by decide) (by decide)) (fun vv V1 hq => ?_)
  obtain ⟨v1, rfl, hv1, hns1, hbt1⟩ := hq
  have HNM1 := Lib.hid hns1
  have HB1 := Lib.hid (HB0.out.trans (hbt1.1.mono HGN.out.1))
  clear hns1 hbt1 HNM HB0
  simp only [pu]
  refine gz1 (.pointer (some ⟨gn, 0, none⟩)) <| gze (fun v w' => ∃ q : Nat, v = .int .i64 q ∧ (q : Int) < 5 ∧ Nm w' gn a c L ((0 + 1) + 1) ∧ But gn V1 w') (nx2 HNM1.out HL.out (by decide) 5 (by decide) (by decide)) (fun vv V2 hq => ?_)
  obtain ⟨v2, rfl, hv2, hns2, hbt2⟩ := hq
  have HNM2 := Lib.hid hns2
  have HB2 := Lib.hid (HB1.out.trans (hbt2.1.mono HGN.out.1))
  clear hns2 hbt2 HNM1 HB1
  have HBL : Hid (I64 (v1 : Int)) := Lib.hid ⟨by omega, by omega⟩
  have HSP : Hid (I64 (v2 : Int)) := Lib.hid ⟨by omega, by omega⟩
  have CN := q_new v1 v2 V2
  clear hv1 hv2
  simp only [pu]
  refine gze (fun v w' => ∃ g S, v = .pointer (some ⟨g, 0, none⟩) ∧ RepQ w' g S v1 v2 [] ∧ (∀ k, S k → V2.heap.size ≤ k) ∧ Below V2.heap.size V2 w') (CN.mono fun e w' z => by obtain ⟨g, S, z1, z2⟩ := z; exact ⟨_, z1, g, S, rfl, z2⟩) (fun vv U1 hq => ?_)
  obtain ⟨g0, S0, rfl, hr0, hso, hb1⟩ := hq
  obtain ⟨B, hB⟩ : ∃ B, V2.heap.size = B := ⟨_, rfl⟩
  have HPS0 : Hid (PS w gn a c L B g0 S0 v1 v2 [] [] none 0 (0 + 1 + 1) U1) := Lib.hid ⟨HB2.out.trans (hb1.mono HB2.out.size), HGN.out.1, by rw [← hB]; exact HNM2.out.lt, by rw [← hB]; exact hb1.size, HNM2.out.below hb1, hr0, fun k hk => by rw [← hB]; exact hso k hk, Cs.nil _ _, Nat.le_refl 0, fun k hk => (hk.1 rfl).elim⟩
  clear hr0 hso hb1 CN HNM2 HB2 hB
  simp only [pu]
  refine gz1 (.pointer (some ⟨g0, 0, none⟩)) <| wn ?_
  simp only [pu]
  go_upto_region 5 with fail
  refine wl <| gz2 (.pointer (some ⟨g0, 0, none⟩)) (.bool false) <| wn ?_
  simp only [pu]
  go_wp2_with fail
  go_loopg [46] L.length (fun gg s46 wx => ∃ (N : Nat) (S : Nat → Prop) (m : List Wt) (r46 : Value), s46 = r46 ∧ L.length - N ≤ gg ∧ Hid (N ≤ 170) ∧ Hid (m.length ≤ N) ∧ Hid (PS w gn a c L B g0 S v1 v2 m [] none 0 N wx))
  case atStart => exact ⟨(0 + 1 + 1), S0, [], _, rfl, by omega, Lib.hid (by decide), Lib.hid (Nat.zero_le _), HPS0⟩
  case round =>
   obtain ⟨N, S, m, r46, hv46, hg, HNN, HMN, HPS⟩ := hrel
   obtain rfl := hv46.symm
   clear HPS0
   have HGK := Lib.hid hg
   obtain ⟨ml, hml⟩ : ∃ k, m.length = k := ⟨_, rfl⟩
   have HML := Lib.hid hml
   have HMB : Hid (ml ≤ 180) := Lib.hid (by have := HMN.out; have := HNN.out; omega)
   clear hg hml
   by_cases hlt : N < L.length
   ·skip
    go_upto_region 7 with fail
    refine wl <| gz3 (.pointer (some ⟨gn, 0, none⟩)) (.pointer (some ⟨gn, 0, none⟩)) (.pointer (some ⟨gn, 1, none⟩)) <| gzl rfl ⟨gn, 1, none⟩ (.int .i64 N) (HPS.out.nm.1.load (i := 1) rfl (by kernel_rfl)) <| gz2 (.slice a L.length c) (.int .i64 L.length) <|
     gzb (lss_n rfl (N) (L.length) dT) <| wn ?_
    simp only [pu]
    go_upto_region 8 with fail
    refine wl <| gz2 (.pointer (some ⟨g0, 0, none⟩)) (.pointer (some ⟨gn, 0, none⟩)) <| gze (fun v w' => ∃ q : Nat, v = .int .i64 q ∧ (q : Int) < 30 ∧ Nm w' gn a c L (N + 1) ∧ But gn wr w') (nx2 HPS.out.nm HL.out (by have := HNN.out; omega) 30 (by decide) (by decide)) (fun vv X3 hq => ?_)
    obtain ⟨q3, rfl, hv3, hns3, hbt3⟩ := hq
    have HQ3 : Hid (I64 (q3 : Int)) := Lib.hid ⟨by omega, by omega⟩
    have HP3 := Lib.hid (HPS.out.num hns3 hbt3)
    clear hns3 hbt3 hv3 HPS
    simp only [pu]
    refine gz1 (.pointer (some ⟨gn, 0, none⟩)) <| gze (fun v w' => ∃ q : Nat, v = .int .i64 q ∧ (q : Int) < 15 ∧ Nm w' gn a c L ((N + 1) + 1) ∧ But gn X3 w') (nx2 HP3.out.nm HL.out (by have := HNN.out; omega) 15 (by decide) (by decide)) (fun vv X4 hq => ?_)
    obtain ⟨q4, rfl, hv4, hns4, hbt4⟩ := hq
    have HQ4 : Hid (I64 (q4 : Int)) := Lib.hid ⟨by omega, by omega⟩
    have HP4 := Lib.hid (HP3.out.num hns4 hbt4)
    clear hns4 hbt4 hv4 HP3
    simp only [pu]
    refine gz1 (.pointer (some ⟨gn, 0, none⟩)) <| gze (fun v w' => ∃ q : Nat, v = .int .i64 q ∧ (q : Int) < 20 ∧ Nm w' gn a c L ((N + 1 + 1) + 1) ∧ But gn X4 w') (nx2 HP4.out.nm HL.out (by have := HNN.out; omega) 20 (by decide) (by decide)) (fun vv X5 hq => ?_)
    obtain ⟨q5, rfl, hv5, hns5, hbt5⟩ := hq
    have HQ5 : Hid (I64 (q5 : Int)) := Lib.hid ⟨by omega, by omega⟩
    have HP5 := Lib.hid (HP4.out.num hns5 hbt5)
    clear hns5 hbt5 hv5 HP4
    have CA := q_add HP5.out.rep (by rw [HML.out]; have := HMB.out; omega) q3 q4 q5 HQ4.out HQ5.out HP5.out.so HP5.out.bz
    simp only [pu]
    refine gzc (.bool (!hasW m q3)) (fun w' => UpdQ g0 B S v1 v2 (addW m (q3, q4, q5)) X5 w') CA (fun X6 hu => ?_)
    obtain ⟨S2, hp6⟩ := HP5.out.prog hu
    have HP6 := Lib.hid hp6
    clear hu hp6 CA HP5
    simp only [pu]
    apply wpList_nil
    have HMN2 : Hid ((addW m (q3, q4, q5)).length ≤ N + 1 + 1 + 1) := Lib.hid (by have := HMN.out; have := add_le m (q3, q4, q5); omega)
    go_wp2_with fail
    go_roundg (L.length - (N + 1 + 1 + 1))
    case measure => have := HGK.out; omega
    case rel => exact ⟨(N + 1 + 1 + 1), _, (addW m (q3, q4, q5)), _, rfl, Nat.le_refl _, Lib.hid (by have := HLL.out; omega), HMN2, HP6⟩
   ·skip
    go_upto_region 7 with fail
    refine wl <| gz3 (.pointer (some ⟨gn, 0, none⟩)) (.pointer (some ⟨gn, 0, none⟩)) (.pointer (some ⟨gn, 1, none⟩)) <| gzl rfl ⟨gn, 1, none⟩ (.int .i64 N) (HPS.out.nm.1.load (i := 1) rfl (by kernel_rfl)) <| gz2 (.slice a L.length c) (.int .i64 L.length) <|
     gzb (lss_n rfl (N) (L.length) dF) <| wn ?_
    simp only [pu]
    have HREP := Lib.hid HPS.out.rep
    have HBW := Lib.hid HPS.out.bel
    have hp1 := pl_range y1 25 (by decide)
    have hp2 := pl_range y2 30 (by decide)
    have hp3 := pl_range y3 9 (by decide)
    have hp4 := pl_range y4 9 (by decide)
    have CP1 := mk_place y1 25 wr (by decide) (by decide)
    have CP2 := mk_place y2 30 wr (by decide) (by decide)
    have CP3 := fun V => mk_place y3 9 V (by decide) (by decide)
    have CP4 := fun V => mk_place y4 9 V (by decide) (by decide)
    clear HPS
    generalize pl y1 25 = h at *
    generalize pl y2 30 = t at *
    generalize pl y3 9 = d at *
    generalize pl y4 9 = d2 at *
    have HI : Hid (I64 h ∧ I64 t ∧ I64 (h + d) ∧ I64 (t + d2) ∧ h ≤ h + d ∧ t ≤ t + d2 ∧ 0 ≤ h + d ∧ h + d ≤ 100 ∧ 0 ≤ t + d2 ∧ t + d2 ≤ 100) := Lib.hid ⟨⟨by omega, by omega⟩, ⟨by omega, by omega⟩, ⟨by omega, by omega⟩, ⟨by omega, by omega⟩, by omega, by omega, by omega, by omega, by omega, by omega⟩
    have HCP3 := Lib.hid CP3
    have HCP4 := Lib.hid CP4
    clear hp1 hp2 hp3 hp4 CP3 CP4
    go_upto_region 9 with fail
    refine wl <| gz1 (.int .i64 y1) <| gzc (.int .i64 h) (fun w' => wr = w') (CP1) (fun V9 hV9 => ?_)
    subst hV9
    simp only [pu]
    refine gz1 (.int .i64 y2) <| gzc (.int .i64 t) (fun w' => wr = w') (CP2) (fun V9 hV9 => ?_)
    subst hV9
    simp only [pu]
    refine gz2 (.int .i64 h) (.int .i64 t) <| wn ?_
    simp only [pu]
    clear CP1 CP2
    have CE1 := q_exp HREP.out (by rw [HML.out]; have := HMB.out; omega) HBL.out HSP.out (h := h) (t := t) HI.out.1 HI.out.2.1
    have hEA := expW_len m v1 v2 h t
    have hEB := expW_len m v1 v2 (h + d) (t + d2)
    have hST : ∀ k, k ∈ expW m v1 v2 h t → k ∈ expW m v1 v2 (h + d) (t + d2) := fun k hk => exp_stays HI.out.2.2.2.2.1 HI.out.2.2.2.2.2.1 hk
    rw [HML.out] at hEA hEB
    obtain ⟨A, hA⟩ : ∃ R, expW m v1 v2 h t = R := ⟨_, rfl⟩
    obtain ⟨D, hD⟩ : ∃ R, expW m v1 v2 (h + d) (t + d2) = R := ⟨_, rfl⟩
    rw [hA] at hEA CE1
    rw [hD] at hEB
    simp only [hA, hD] at hST
    have HAE := Lib.hid hA
    have HDE := Lib.hid hD
    obtain ⟨kA, hkA⟩ : ∃ k, A.length = k := ⟨_, rfl⟩
    obtain ⟨kB, hkB⟩ : ∃ k, D.length = k := ⟨_, rfl⟩
    rw [hkA] at hEA
    rw [hkB] at hEB
    have HKA := Lib.hid hkA
    have HKB := Lib.hid hkB
    have HLE : Hid (kA ≤ ml ∧ kB ≤ ml) := Lib.hid ⟨hEA, hEB⟩
    have HST := Lib.hid hST
    clear hEA hEB hST hA hD hkA hkB
    go_upto_region 10 with fail
    refine wl <| gz3 (.pointer (some ⟨g0, 0, none⟩)) (.int .i64 h) (.int .i64 t) <| gze (fun v w' => ∃ a c, v = .slice a (List.length A) c ∧ Cs w' a (icells A) ∧ List.length A ≤ c ∧ Below wr.heap.size wr w') (CE1.mono fun e w' z => z.cs) (fun vv X1 hq => ?_)
    obtain ⟨a1, c1, rfl, hc1, hlc1, hbX1⟩ := hq
    rw [HKA.out] at hlc1 ⊢
    have HREP1 := Lib.hid (HREP.out.below hbX1)
    have HC1 := Lib.hid hc1
    have HB1_ := Lib.hid (HBW.out.trans (hbX1.mono HBW.out.size))
    have CE2 := q_exp HREP1.out (by rw [HML.out]; have := HMB.out; omega) HBL.out HSP.out (h := h + d) (t := t + d2) HI.out.2.2.1 HI.out.2.2.2.1
    rw [HDE.out] at CE2
    have CP3 := HCP3.out X1
    have CP4 := HCP4.out X1
    clear CE1 hc1 hlc1 hbX1 HREP HBW
    simp only [pu]
    refine gz1 (.slice a1 kA c1) <| wn ?_
    simp only [pu]
    go_upto_region 11 with fail
    refine wl <| gz3 (.pointer (some ⟨g0, 0, none⟩)) (.int .i64 h) (.int .i64 y3) <| gzc (.int .i64 d) (fun w' => X1 = w') (CP3) (fun V9 hV9 => ?_)
    subst hV9
    simp only [pu]
    refine gzw (.int .i64 (h + d)) (add_i rfl h d (by have := HI.out; omega)) <| gz2 (.int .i64 t) (.int .i64 y4) <| gzc (.int .i64 d2) (fun w' => X1 = w') (CP4) (fun V9 hV9 => ?_)
    subst hV9
    simp only [pu]
    refine gzw (.int .i64 (t + d2)) (add_i rfl t d2 (by have := HI.out; omega)) <| gze (fun v w' => ∃ a c, v = .slice a (List.length D) c ∧ Cs w' a (icells D) ∧ List.length D ≤ c ∧ Below X1.heap.size X1 w') (CE2.mono fun e w' z => z.cs) (fun vv X2 hq => ?_)
    obtain ⟨a2, c2, rfl, hc2, hlc2, hbX2⟩ := hq
    rw [HKB.out] at hlc2 ⊢
    have HK0 : Hid (KS2 w g0 S v1 v2 m a1 A a2 D X2) := Lib.hid ⟨HREP1.out.below hbX2, HC1.out.below hbX2, hc2, HB1_.out.trans (hbX2.mono HB1_.out.size)⟩
    clear CE2 hc2 hlc2 hbX2 HREP1 HC1 HB1_
    simp only [pu]
    refine gz1 (.slice a2 kB c2) <| wn ?_
    simp only [pu]
    clear CP3 CP4
    go_upto_region 12 with fail
    refine wl <| gz3 (.slice a1 kA c1) (.int .i64 kA) (.int .i64 0) <| wn ?_
    simp only [pu]
    go_wp2_with fail
    go_loopg [67] kA (fun gg s67 wx => ∃ (i : Nat), s67 = .int .i64 i ∧ i ≤ kA ∧ gg + i = kA ∧ Hid (KS2 w g0 S v1 v2 m a1 A a2 D wx))
    case atStart => exact ⟨0, rfl, by omega, by omega, HK0⟩
    case round =>
     obtain ⟨i, rfl, hin, hg3, HK⟩ := hrel
     have HGK3 := Lib.hid hg3
     clear hg3 HK0
     by_cases hli : i < kA
     ·skip
      obtain ⟨b, off, hq1, hbb, hc1⟩ := int_at HK.out.ca (k := i) (by rw [HKA.out]; exact hli)
      obtain rfl := hq1
      have hin2 : A.getD i 0 ∈ A := by rw [getD_lt A i 0 (by rw [HKA.out]; exact hli)]; exact List.getElem_mem _
      have CH := fun V (hV : Cs V a2 (icells D)) => r_has (c := c2) hV (by rw [HKB.out]; have := HLE.out; have := HMB.out; omega) (A.getD i 0) (HST.out _ hin2)
      simp only [HKB.out] at CH
      generalize A.getD i 0 = x at *
      have CHX := CH _ HK.out.cb
      clear hin2 CH hbb
      go_upto_region 13 with fail
      refine wl <| gzb (lss_n rfl (i) (kA) dT) <| wn ?_
      simp only [pu]
      go_upto_region 14 with fail
      refine wl <| gzv (.pointer (some ⟨b, off + i, none⟩)) (idx_int b off kA c1 i hli _ _ _ rfl (by kernel_rfl) (by kernel_rfl)) <| gzl rfl ⟨b, off + i, none⟩ (.int .i64 x) (load_cell hc1 (by kernel_rfl)) <| gz1 (.int .i64 x) <| wn ?_
      simp only [pu]
      clear hc1
      go_upto_region 15 with fail
      refine wl <| gz2 (.slice a2 kB c2) (.int .i64 x) <| gzc (.bool true) (fun w' => Below wr.heap.size wr w') CHX (fun X7 hbZ => ?_)
      have HK2 := Lib.hid (HK.out.below hbZ)
      clear hbZ CHX HK
      simp only [pu]
      refine gz1 (.bool false) <| wn ?_
      simp only [pu]
      go_upto_region 17 with fail
      refine wl <| gzv (.int .i64 (i + 1 : Nat)) (add_one rfl i (by have := HLE.out; have := HMB.out; omega) (by kernel_rfl) _) <| gz1 (.int .i64 (i + 1 : Nat)) <| wn ?_
      simp only [pu]
      go_wp2_with fail
      go_roundg (kA - (i + 1))
      case measure => have := HGK3.out; omega
      case rel => exact ⟨i + 1, rfl, by omega, by omega, HK2⟩
     ·skip
      obtain rfl : i = kA := by omega
      go_upto_region 13 with fail
      refine wl <| gzb (lss_n rfl (i) (i) dF) <| wn ?_
      simp only [pu]
      have CE3 := q_exp HK.out.rep (by rw [HML.out]; have := HMB.out; omega) HBL.out HSP.out (h := h) (t := t) HI.out.1 HI.out.2.1
      rw [HAE.out] at CE3
      go_upto_region 18 with fail
      refine wl <| gz3 (.pointer (some ⟨g0, 0, none⟩)) (.int .i64 h) (.int .i64 t) <| gze (fun v w' => ∃ a c, v = .slice a (List.length A) c ∧ Cs w' a (icells A) ∧ List.length A ≤ c ∧ Below wr.heap.size wr w') (CE3.mono fun e w' z => z.cs) (fun vv X3 hq => ?_)
      obtain ⟨a3, c3, rfl, hc3, hlc3, hbX3⟩ := hq
      rw [HKA.out] at hlc3 ⊢
      have HK3 := Lib.hid (HK.out.below hbX3)
      have CST := same_ints (c := c3) (c2 := c1) hc3 HK3.out.ca (by rw [HKA.out]; have := HLE.out; have := HMB.out; omega)
      rw [HKA.out] at CST
      clear CE3 hc3 hlc3 HK
      simp only [pu]
      refine gz1 (.slice a1 i c1) <| gzc (.bool true) (fun w' => Below X3.heap.size X3 w') (CST) (fun X4 hbZ => ?_)
      have HK4 := Lib.hid (HK3.out.below hbZ)
      have CLN := q_len HK4.out.rep
      rw [HML.out] at CLN
      have CK := known_true X4
      clear hbZ CST HK3
      simp only [pu]
      refine gz4 (.bool true) (.slice a2 kB c2) (.int .i64 kB) (.pointer (some ⟨g0, 0, none⟩)) <| gzc (.int .i64 ml) (fun w' => X4 = w') (CLN) (fun V9 hV9 => ?_)
      subst hV9
      simp only [pu]
      refine gzb (leq_n rfl kB ml (decide_eq_true (by have := HLE.out; omega))) <| gz2 (.bool true) (.bool true) <| gzc (.bool true) (fun w' => Below X4.heap.size X4 w') (CK) (fun V8 hV8 => ?_)
      have HE := Lib.hid (HK4.out.bel.trans (hV8.mono HK4.out.bel.size))
      simp only [pu]
      refine gz2 (.bool true) (.bool true) <| wn ?_
      simp only [pu]
      clear hV8 HK4 CK CLN
      go_wp2_with fail
      go_ret
      exact ⟨rfl, HE.out⟩
end Go.Proofs.Ytdjphghoollejaa
