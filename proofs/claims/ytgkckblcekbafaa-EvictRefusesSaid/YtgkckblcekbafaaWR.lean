/-
 The walk of EvictRefuses.
-/
import Derived.Test.YtgkckblcekbafaaWC
namespace Go.Proofs.Ytgkckblcekbafaa
attribute [local irreducible] wpList wpQuiet
open Go.RowKit
set_option maxRecDepth 100000
set_option linter.unusedSimpArgs false
set_option linter.unusedVariables false

def hiL (p : Int) (L : List En) : List En := L.filter fun e => decide (p ≤ e.pri)
theorem hi_yes {p : Int} {L : List En} {i : Nat} (hi : i < L.length) (h : p ≤ (L.getD i zEn).pri) : (hiL p (L.take (i + 1))).length = (hiL p (L.take i)).length + 1 ∧ rawL (hiL p (L.take (i + 1))) = rawL (hiL p (L.take i)) + (L.getD i zEn).raw.length := by
 rw [← take_snoc L i hi]
 rw [List.getD_eq_getElem?_getD, List.getElem?_eq_getElem hi] at h ⊢
 have h2 : p ≤ L[i].pri := h
 unfold hiL
 rw [List.filter_append, List.filter_cons, if_pos (decide_eq_true h2), List.filter_nil, List.length_append, raw_app]
 exact ⟨rfl, by simp [rawL]⟩
theorem hi_no {p : Int} {L : List En} {i : Nat} (hi : i < L.length) (h : ¬ p ≤ (L.getD i zEn).pri) : hiL p (L.take (i + 1)) = hiL p (L.take i) := by
 rw [← take_snoc L i hi]
 rw [List.getD_eq_getElem?_getD, List.getElem?_eq_getElem hi] at h
 have h2 : ¬ p ≤ L[i].pri := h
 unfold hiL
 rw [List.filter_append, List.filter_cons, decide_eq_false h2]
 simp
theorem hi_len (p : Int) (L : List En) (i : Nat) : (hiL p (L.take i)).length ≤ L.length := Nat.le_trans (List.length_filter_le _ _) (by rw [List.length_take]; omega)
theorem hi_raw (p : Int) (L : List En) (i : Nat) : rawL (hiL p (L.take i)) ≤ rawL L := raw_sub (List.filter_sublist.trans (List.take_sublist ..))
set_option maxRecDepth 100000 in
set_option maxHeartbeats 8000000 in
theorem refuses_core {w : World} {a : Option Addr} {c : Nat} {L : List Int} (hk : Cs w a (icells L)) (hl : L.length ≤ 9223372036854775807) (q1 q2 q3 q4 : Int) : Calls Try.prog 6 #[.slice a L.length c, .int .i64 q1, .int .i64 q2, .int .i64 q3, .int .i64 q4] w fun e w' => e = .returned (.bool true) ∧ Below w.heap.size w w' := by
 have HKK := Lib.hid hk
 clear hk
 go_enter Try.func6, Try.ntmps6
 go_upto_region 1 with fail
 have HBW : Hid (Below w.heap.size w w) := Lib.hid (Below.refl _ _)
 have hbd := one_row a L.length c w
 have hXl : Bx (w.alloc (.cells #[.slice a L.length c] 23)) w.heap.size #[.slice a L.length c] 23 := heap_alloc_last w _
 have hbl : Below w.heap.size w (w.alloc (.cells #[.slice a L.length c] 23)) := (Below.refl _ w).alloc (Nat.le_refl _) _
 have CL := long_one w.heap.size a L.length c _ hXl hl
 generalize w.alloc (.cells #[.slice a L.length c] 23) = W1 at *
 have HB1 := Lib.hid (HBW.out.trans (hbl.mono HBW.out.size))
 have HBL := Lib.hid hbl
 clear hXl hbl
 by_cases hlong : 160 < L.length
 ·skip
  rw [decide_eq_true (by omega)] at CL
  refine wl <| gz1 (.slice a L.length c) ?_
  simp only [pu]
  refine gw_build (by kernel_rfl) (some 20) rfl 52 1 #[(0, .tmp 19)] rfl #[(0, .slice a L.length c)] (by kernel_rfl) (.slice (some ⟨w.heap.size, 0, none⟩) 1 1) _ hbd ?_
  simp only [pu]
  refine gzc (.bool true) (fun w' => W1 = w') (CL) (fun V9 hV9 => ?_)
  subst hV9
  simp only [pu]
  apply wpList_nil
  clear CL hbd
  have CK := known_true W1
  go_upto_region 2 with fail
  refine wl <| gzc (.bool true) (fun w' => Below W1.heap.size W1 w') (CK) (fun V2 hV2 => ?_)
  simp only [pu]
  refine gz1 (.bool true) <| wn ?_
  simp only [pu]
  have HE := HB1.out.trans (hV2.mono HB1.out.size)
  go_wp2_with fail
  go_ret
  exact ⟨rfl, HE⟩
 ·skip
  rw [decide_eq_false (by omega)] at CL
  refine wl <| gz1 (.slice a L.length c) ?_
  simp only [pu]
  refine gw_build (by kernel_rfl) (some 20) rfl 52 1 #[(0, .tmp 19)] rfl #[(0, .slice a L.length c)] (by kernel_rfl) (.slice (some ⟨w.heap.size, 0, none⟩) 1 1) _ hbd ?_
  simp only [pu]
  refine gzc (.bool false) (fun w' => W1 = w') (CL) (fun V9 hV9 => ?_)
  subst hV9
  simp only [pu]
  apply wpList_nil
  clear CL hbd
  have hlong : L.length ≤ 160 := by omega
  have HLN := Lib.hid hlong
  go_upto_region 3 with fail
  refine wl <| gz1 (.slice a L.length c) <| gzc (.pointer (some ⟨W1.heap.size, 0, none⟩)) (fun w' => w' = W1.alloc (.cells #[.slice a L.length c, .int .i64 0] 56)) (mk_from a L.length c W1) (fun V9 hV9 => ?_)
  subst hV9
  obtain ⟨hnm, hbn⟩ := nm_start (c := c) HKK.out HB1.out
  generalize hWq : W1.alloc (.cells #[.slice a L.length c, .int .i64 0] 56) = W2 at *
  obtain ⟨g0, hg0⟩ : ∃ q, W1.heap.size = q := ⟨_, rfl⟩
  rw [hg0] at hnm ⊢
  have HG0 : Hid (w.heap.size ≤ g0 ∧ Below w.heap.size w W2) := Lib.hid ⟨by rw [← hg0]; exact HB1.out.size, hbn⟩
  have hes := mk_entries hnm (by omega) (by omega)
  clear hnm hbn hg0 hWq
  simp only [pu]
  refine gze (fun v w' => ∃ a2 c2 X N', v = .slice a2 X.length c2 ∧ EnS W2 w' g0 c a L N' (.slice a2 X.length c2) X ∧ X.length ≤ 10 ∧ N' ≤ 400) (hes.mono fun e9 w' z => by obtain ⟨a2, c2, X, N', h1, h2, h3, h4⟩ := z; exact ⟨_, h1, a2, c2, X, N', rfl, h2, h3, by omega⟩) (fun vv W3 hq => ?_)
  obtain ⟨a9, c9, X, N1, rfl, hS, hX10, hN1⟩ := hq
  have HXR := Lib.hid (fun V (hV : Below W3.heap.size W3 V) => hS.xr.below hV)
  have HEN : Hid (X.length ≤ 10 ∧ (∀ x ∈ X, x.1.snd ∈ nms ∧ x.1.raw.length ≤ 8 ∧ x.1.prs.length ≤ 2) ∧ rawL (lE X) ≤ 80) := Lib.hid ⟨hX10, hS.sz, raw_few hS.sz hX10⟩
  have HES := Lib.hid hS
  have HNN : Hid (N1 ≤ 400) := Lib.hid hN1
  have HB3 : Hid (Below w.heap.size w W3) := Lib.hid (HG0.out.2.trans (hS.but.1.mono HG0.out.1))
  clear hes hS hX10 hN1
  simp only [pu]
  refine gz1 (.slice a9 X.length c9) <| wn ?_
  simp only [pu]
  clear hlong
  go_upto_region 4 with fail
  refine wl <| gz1 (.int .i64 q1) <| gzc (.int .i64 (pl q1 7)) (fun w' => W3 = w') (mk_place q1 7 W3 (by omega) (by omega)) (fun V9 hV9 => ?_)
  subst hV9
  simp only [pu]
  refine gzv (.int .u64 (pl q1 7)) (conv_iu rfl (pl q1 7) (pl_range q1 7 (by omega)).1 (by have := (pl_range q1 7 (by omega)).2; omega) (by kernel_rfl) _) <| gz1 (.int .u64 (pl q1 7)) <| wn ?_
  simp only [pu]
  go_upto_region 5 with fail
  refine wl <| gz1 (.int .i64 q2) <| gzc (.int .i64 (pl q2 9)) (fun w' => W3 = w') (mk_place q2 9 W3 (by omega) (by omega)) (fun V9 hV9 => ?_)
  subst hV9
  simp only [pu]
  refine gz1 (.int .i64 q3) <| gzc (.int .i64 (pl q3 13)) (fun w' => W3 = w') (mk_place q3 13 W3 (by omega) (by omega)) (fun V9 hV9 => ?_)
  subst hV9
  simp only [pu]
  refine gz1 (.int .i64 q4) <| gzc (.int .i64 (pl q4 60)) (fun w' => W3 = w') (mk_place q4 60 W3 (by omega) (by omega)) (fun V9 hV9 => ?_)
  subst hV9
  simp only [pu]
  refine gz3 (.int .i64 (pl q2 9)) (.int .i64 (pl q3 13)) (.int .i64 (pl q4 60)) <| wn ?_
  simp only [pu]
  have hp1 := pl_range q1 7 (by omega)
  have hp2 := pl_range q2 9 (by omega)
  have hp3 := pl_range q3 13 (by omega)
  have hp4 := pl_range q4 60 (by omega)
  obtain ⟨p, hp⟩ : ∃ p, pl q1 7 = p := ⟨_, rfl⟩
  obtain ⟨s, hs⟩ : ∃ s, pl q2 9 = s := ⟨_, rfl⟩
  obtain ⟨mt, hmt⟩ : ∃ m, pl q3 13 = m := ⟨_, rfl⟩
  obtain ⟨mb, hmb⟩ : ∃ m, pl q4 60 = m := ⟨_, rfl⟩
  rw [hp] at hp1
  rw [hs] at hp2
  rw [hmt] at hp3
  rw [hmb] at hp4
  simp only [hp, hs, hmt, hmb]
  have HP : Hid (0 ≤ p ∧ p < 7 ∧ 0 ≤ s ∧ s < 9 ∧ 0 ≤ mt ∧ mt < 13 ∧ 0 ≤ mb ∧ mb < 60) := Lib.hid (by omega)
  clear hp1 hp2 hp3 hp4 hp hs hmt hmb
  have HSE : Hid (∀ V, Below W3.heap.size W3 V → Calls Try.prog 16 #[.slice a9 X.length c9, .int .u64 p, .int .i64 s, .int .i64 mt, .int .i64 mb] V fun e w' => ∃ v, e = .returned (.tuple #[v, .bool (decide (((hiL p (lE X)).length : Int) + 1 ≤ mt) && decide ((rawL (hiL p (lE X)) : Int) + s ≤ mb))]) ∧ Below V.heap.size V w') := Lib.hid fun V hV => by
   have hsel := q_select (c := c9) (HXR.out V hV) (by have := HEN.out.1; omega) (by have := HEN.out.2.2; omega) p s mt mb (by have := HP.out; omega)
   rw [show max s 0 = s by have := HP.out; omega, vic_all HP.out.2.2.1] at hsel
   exact hsel.mono fun e w' z => by obtain ⟨v, h1, a, c, h2, h3, h4⟩ := z; exact ⟨v, h1, h4⟩
  have HLL := Lib.hid (lE_at X)
  have hll := lE_len X
  have hxr := HXR.out
  have hrb := HEN.out.2.2
  obtain ⟨LX, hLX⟩ : ∃ LX, lE X = LX := ⟨_, rfl⟩
  obtain ⟨n, hn⟩ : ∃ n, X.length = n := ⟨_, rfl⟩
  rw [hLX] at HSE HLL hll hrb
  rw [hn] at HSE HLL hll ⊢
  have HN : Hid (n ≤ 10 ∧ LX.length = n ∧ rawL LX ≤ 80 ∧ X.length = n) := Lib.hid ⟨by rw [← hn]; exact HEN.out.1, hll, hrb, hn⟩
  have HXX := Lib.hid hxr
  clear hLX hn hll hrb hxr HXR HEN HES
  go_upto_region 6 with fail
  refine wl <| gz3 (.int .i64 s) (.int .i64 1) (.int .i64 s) <| wn ?_
  simp only [pu]
  go_upto_region 7 with fail
  refine wl <| gz3 (.slice a9 n c9) (.int .i64 n) (.int .i64 0) <| wn ?_
  simp only [pu]
  go_wp2_with fail
  go_loopg [13, 14, 38] n (fun gg s13 s14 s38 wx => ∃ (i cn : Nat) (bt : Int), s38 = .int .i64 i ∧ s13 = .int .i64 cn ∧ s14 = .int .i64 bt ∧ i ≤ n ∧ gg + i = n ∧ Hid (cn = (hiL p (LX.take i)).length + 1 ∧ bt = (rawL (hiL p (LX.take i)) : Int) + s) ∧ Hid (Below W3.heap.size W3 wx))
  case atStart => exact ⟨0, 1, s, rfl, rfl, rfl, by omega, by omega, Lib.hid ⟨rfl, by simp [rawL, hiL]⟩, Lib.hid (Below.refl _ _)⟩
  case round =>
   obtain ⟨i, cn, bt, rfl, rfl, rfl, hin, hg, HC, HR⟩ := hrel
   have HGK : Hid (gk + i = n) := Lib.hid hg
   have HI := Lib.hid hin
   clear hg
   by_cases hlt : i < n
   ·skip
    obtain ⟨b, off, hbb, -, hrg⟩ := (HXX.out wr HR.out).rg (i := i) (by rw [HN.out.2.2.2]; exact hlt)
    obtain rfl := hbb
    have hle := HLL.out i hlt
    obtain ⟨x, hx⟩ : ∃ x, X.getD i zEA = x := ⟨_, rfl⟩
    rw [hx] at hrg hle
    have HX := Lib.hid hle
    obtain ⟨V2, hst2, hb2, hX16⟩ := new_bx (c := enA zEn zAd) (c' := enA x.1 x.2) (ty := 50) wr rfl (enA_one _ _) (by kernel_rfl)
    have HR2 : Hid (Below W3.heap.size W3 V2) := Lib.hid (HR.out.trans (hb2.mono HR.out.size))
    have hl1 := hi_len p LX (i + 1)
    have hr1 := hi_raw p LX (i + 1)
    rw [HN.out.2.1] at hl1
    have HB9 : Hid ((hiL p (LX.take (i + 1))).length ≤ n ∧ rawL (hiL p (LX.take (i + 1))) ≤ 80) := Lib.hid ⟨hl1, Nat.le_trans hr1 HN.out.2.2.1⟩
    obtain ⟨g16, hg16⟩ : ∃ g, wr.heap.size = g := ⟨_, rfl⟩
    rw [hg16] at hX16
    clear hle hx hb2 hl1 hr1
    go_upto_region 8 with fail
    refine wl <| gzb (lss_n rfl (i) (n) dT) <| wn ?_
    simp only [pu]
    go_upto_region 9 with fail
    refine wl <| gzv (.pointer (some ⟨b, off + i * 41, none⟩)) (idx_en b off n c9 i hlt _ _ _ rfl (by kernel_rfl) (by kernel_rfl)) <| gzl rfl ⟨b, off + i * 41, none⟩ (.agg (enA x.1 x.2)) (load_en hrg) ?_
    simp only [pu]
    refine run_to rfl (some 16) rfl (.pointer (some ⟨wr.heap.size, 0, none⟩)) (wr.alloc (.cells (enA zEn zAd) 50)) (by kernel_rfl) ?_
    simp only [pu]
    refine gzs rfl (hst2) <| wn ?_
    rw [hg16]
    clear hst2 hrg hg16
    by_cases hp : p ≤ x.1.pri
    ·skip
     go_upto_region 10 with fail
     refine wl <| gz1 (.pointer (some ⟨g16, 36, none⟩)) <| gzl rfl ⟨g16, 36, none⟩ (.int .u64 x.1.pri) (rg_cell (bx_range hX16) (j := 36) rfl (by kernel_rfl)) <| gz1 (.int .u64 p) <| gzb (geq_w rfl x.1.pri p (decide_eq_true hp)) <|
      wpList_nil ?_
     simp only [pu]
     have hst := hi_yes (p := p) (L := LX) (i := i) (by rw [HN.out.2.1]; exact hlt) (by rw [HX.out]; exact hp)
     rw [HX.out] at hst
     have HST := Lib.hid hst
     clear hst hp
     go_upto_region 11 with fail
     refine wl <| gz1 (.int .i64 cn) <| gzw (.int .i64 ((cn + 1 : Nat) : Int)) (add_nn rfl cn 1 (by have := HC.out; have := HST.out; have := HB9.out; have := HN.out; omega)) <| gz1 (.int .i64 ((cn + 1 : Nat) : Int)) <| wn ?_
     simp only [pu]
     go_upto_region 12 with fail
     refine wl <| gz2 (.int .i64 bt) (.pointer (some ⟨g16, 32, none⟩)) <| gzl rfl ⟨g16, 32, none⟩ (.slice x.2.ra x.1.raw.length x.2.rc) (rg_cell (bx_range hX16) (j := 32) rfl (by kernel_rfl)) <| gz1 (.int .i64 x.1.raw.length) <|
      gzw (.int .i64 (bt + x.1.raw.length)) (add_i rfl bt x.1.raw.length (by have := HC.out; have := HST.out; have := HB9.out; have := HP.out; omega)) <| gz1 (.int .i64 (bt + x.1.raw.length)) <| wn ?_
     simp only [pu]
     clear hX16
     go_upto_region 13 with fail
     refine wl <| gzv (.int .i64 (i + 1 : Nat)) (add_one rfl i (by have := HN.out; omega) (by kernel_rfl) _) <| gz1 (.int .i64 (i + 1 : Nat)) <| wn ?_
     simp only [pu]
     go_wp2_with fail
     go_roundg (n - (i + 1))
     case measure => have := HGK.out; omega
     case rel => exact ⟨i + 1, cn + 1, bt + x.1.raw.length, rfl, rfl, rfl, by omega, by omega, Lib.hid ⟨by have := HC.out; have := HST.out; omega, by have := HC.out; have := HST.out; omega⟩, HR2⟩
    ·skip
     go_upto_region 10 with fail
     refine wl <| gz1 (.pointer (some ⟨g16, 36, none⟩)) <| gzl rfl ⟨g16, 36, none⟩ (.int .u64 x.1.pri) (rg_cell (bx_range hX16) (j := 36) rfl (by kernel_rfl)) <| gz1 (.int .u64 p) <| gzb (geq_w rfl x.1.pri p (decide_eq_false hp)) <|
      wpList_nil ?_
     simp only [pu]
     have hst := hi_no (p := p) (L := LX) (i := i) (by rw [HN.out.2.1]; exact hlt) (by rw [HX.out]; exact hp)
     have HST := Lib.hid hst
     clear hst hp
     clear hX16
     go_upto_region 13 with fail
     refine wl <| gzv (.int .i64 (i + 1 : Nat)) (add_one rfl i (by have := HN.out; omega) (by kernel_rfl) _) <| gz1 (.int .i64 (i + 1 : Nat)) <| wn ?_
     simp only [pu]
     go_wp2_with fail
     go_roundg (n - (i + 1))
     case measure => have := HGK.out; omega
     case rel => exact ⟨i + 1, cn, bt, rfl, rfl, rfl, by omega, by omega, Lib.hid ⟨by rw [HST.out]; exact HC.out.1, by rw [HST.out]; exact HC.out.2⟩, HR2⟩
   ·skip
    obtain rfl : i = n := by omega
    have hc := HC.out
    rw [List.take_of_length_le (by rw [HN.out.2.1]; exact Nat.le_refl _)] at hc
    have hse := HSE.out wr HR.out
    rw [show ((hiL p LX).length : Int) + 1 = (cn : Int) by omega, ← hc.2] at hse
    clear hc
    go_upto_region 8 with fail
    refine wl <| gzb (lss_n rfl (i) (i) dF) <| wn ?_
    simp only [pu]
    obtain ⟨okb, hokb⟩ : ∃ q : Bool, (decide ((cn : Int) ≤ mt) && decide (bt ≤ mb)) = q := ⟨_, rfl⟩
    rw [hokb] at hse
    go_upto_region 14 with fail
    refine wl <| gz5 (.slice a9 i c9) (.int .u64 p) (.int .i64 s) (.int .i64 mt) (.int .i64 mb) <| gze (fun vx w' => ∃ av, vx = .tuple #[av, .bool okb] ∧ Below wr.heap.size wr w') (hse.mono fun e9 w' z => by obtain ⟨v, h1, h2⟩ := z; exact ⟨_, h1, v, rfl, h2⟩) (fun vv W4 hq => ?_)
    obtain ⟨av, rfl, hbv⟩ := hq
    simp only [pu]
    refine gz5 (.tuple #[av, .bool okb]) (av) (.bool okb) (av) (.bool okb) <| wn ?_
    simp only [pu]
    have HB4 : Hid (Below w.heap.size w W4) := Lib.hid ((HB3.out.trans (HR.out.mono HB3.out.size)).trans (hbv.mono (by have := HR.out.size; have := HB3.out.size; omega)))
    have hkn := known_true W4
    clear hse hbv
    by_cases k1 : (cn : Int) ≤ mt
    ·skip
     by_cases k2 : bt ≤ mb
     ·skip
      obtain rfl : true = okb := by rw [← hokb, decide_eq_true k1, decide_eq_true k2]; rfl
      clear hokb
      go_upto_region 15 with fail
      refine wl <| gz3 (.bool true) (.int .i64 cn) (.int .i64 mt) <| gzb (leq_n rfl (cn) (mt) (decide_eq_true (k1))) <| gz3 (.bool true) (.int .i64 bt) (.int .i64 mb) <|
       gzb (leq_n rfl (bt) (mb) (decide_eq_true (k2))) <| gz1 (.bool true) <| gzw (.bool true) (eql_b rfl true true rfl) <| gz1 (.bool true) <| gzc (.bool true) (fun w' => Below W4.heap.size W4 w') (hkn) (fun W5 hW5 => ?_)
      simp only [pu]
      refine gz2 (.bool true) (.bool true) <| wn ?_
      simp only [pu]
      have HE := Lib.hid (HB4.out.trans (hW5.mono HB4.out.size))
      clear hkn hW5
      go_wp2_with fail
      go_ret
      exact ⟨rfl, HE.out⟩
     ·skip
      obtain rfl : false = okb := by rw [← hokb, decide_eq_true k1, decide_eq_false k2]; rfl
      clear hokb
      go_upto_region 15 with fail
      refine wl <| gz3 (.bool false) (.int .i64 cn) (.int .i64 mt) <| gzb (leq_n rfl (cn) (mt) (decide_eq_true (k1))) <| gz3 (.bool true) (.int .i64 bt) (.int .i64 mb) <|
       gzb (leq_n rfl (bt) (mb) (decide_eq_false (k2))) <| gz1 (.bool false) <| gzw (.bool true) (eql_b rfl false false rfl) <| gz1 (.bool true) <| gzc (.bool true) (fun w' => Below W4.heap.size W4 w') (hkn) (fun W5 hW5 => ?_)
      simp only [pu]
      refine gz2 (.bool true) (.bool true) <| wn ?_
      simp only [pu]
      have HE := Lib.hid (HB4.out.trans (hW5.mono HB4.out.size))
      clear hkn hW5
      go_wp2_with fail
      go_ret
      exact ⟨rfl, HE.out⟩
    ·skip
     obtain rfl : false = okb := by rw [← hokb, decide_eq_false k1]; rfl
     clear hokb
     go_upto_region 15 with fail
     refine wl <| gz3 (.bool false) (.int .i64 cn) (.int .i64 mt) <| gzb (leq_n rfl (cn) (mt) (decide_eq_false (k1))) <| gz5 (.bool false) undef undef undef (.bool false) <|
      gzw (.bool true) (eql_b rfl false false rfl) <| gz1 (.bool true) <| gzc (.bool true) (fun w' => Below W4.heap.size W4 w') (hkn) (fun W5 hW5 => ?_)
     simp only [pu]
     refine gz2 (.bool true) (.bool true) <| wn ?_
     simp only [pu]
     have HE := Lib.hid (HB4.out.trans (hW5.mono HB4.out.size))
     clear hkn hW5
     go_wp2_with fail
     go_ret
     exact ⟨rfl, HE.out⟩
end Go.Proofs.Ytgkckblcekbafaa
