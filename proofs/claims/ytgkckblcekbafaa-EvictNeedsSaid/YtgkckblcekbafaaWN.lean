/-
 The walk of EvictNeeds.
-/
import Derived.Test.YtgkckblcekbafaaWC
namespace Go.Proofs.Ytgkckblcekbafaa
attribute [local irreducible] wpList wpQuiet
open Go.RowKit
set_option maxRecDepth 100000
set_option linter.unusedSimpArgs false
set_option linter.unusedVariables false

set_option maxRecDepth 100000 in
set_option maxHeartbeats 8000000 in
theorem needs_core {w : World} {a : Option Addr} {c : Nat} {L : List Int} (hk : Cs w a (icells L)) (hl : L.length ≤ 9223372036854775807) (q1 q2 q3 q4 : Int) : Calls Try.prog 5 #[.slice a L.length c, .int .i64 q1, .int .i64 q2, .int .i64 q3, .int .i64 q4] w fun e w' => e = .returned (.bool true) ∧ Below w.heap.size w w' := by
 have HKK := Lib.hid hk
 clear hk
 go_enter Try.func5, Try.ntmps5
 go_upto_region 1 with fail
 have HBW : Hid (Below w.heap.size w w) := Lib.hid (Below.refl _ _)
 have hbd := one_row a L.length c w
 have hXl : Bx (w.alloc (.cells #[.slice a L.length c] 23)) w.heap.size #[.slice a L.length c] 23 := heap_alloc_last w _
 have hbl : Below w.heap.size w (w.alloc (.cells #[.slice a L.length c] 23)) := (Below.refl _ w).alloc (Nat.le_refl _) _
 have CL := long_one w.heap.size a L.length c _ hXl hl
 generalize w.alloc (.cells #[.slice a L.length c] 23) = W1 at *
 have HB1 := Lib.hid (HBW.out.trans (hbl.mono HBW.out.size))
 have HBL := Lib.hid hbl
 clear hXl hbl
 by_cases hlong : 160 < L.length
 ·skip
  rw [decide_eq_true (by omega)] at CL
  refine wl <| gz1 (.slice a L.length c) ?_
  simp only [pu]
  refine gw_build (by kernel_rfl) (some 21) rfl 52 1 #[(0, .tmp 20)] rfl #[(0, .slice a L.length c)] (by kernel_rfl) (.slice (some ⟨w.heap.size, 0, none⟩) 1 1) _ hbd ?_
  simp only [pu]
  refine gzc (.bool true) (fun w' => W1 = w') (CL) (fun V9 hV9 => ?_)
  subst hV9
  simp only [pu]
  apply wpList_nil
  clear CL hbd
  have CK := known_true W1
  go_upto_region 2 with fail
  refine wl <| gzc (.bool true) (fun w' => Below W1.heap.size W1 w') (CK) (fun V2 hV2 => ?_)
  simp only [pu]
  refine gz1 (.bool true) <| wn ?_
  simp only [pu]
  have HE := HB1.out.trans (hV2.mono HB1.out.size)
  go_wp2_with fail
  go_ret
  exact ⟨rfl, HE⟩
 ·skip
  rw [decide_eq_false (by omega)] at CL
  refine wl <| gz1 (.slice a L.length c) ?_
  simp only [pu]
  refine gw_build (by kernel_rfl) (some 21) rfl 52 1 #[(0, .tmp 20)] rfl #[(0, .slice a L.length c)] (by kernel_rfl) (.slice (some ⟨w.heap.size, 0, none⟩) 1 1) _ hbd ?_
  simp only [pu]
  refine gzc (.bool false) (fun w' => W1 = w') (CL) (fun V9 hV9 => ?_)
  subst hV9
  simp only [pu]
  apply wpList_nil
  clear CL hbd
  have hlong : L.length ≤ 160 := by omega
  have HLN := Lib.hid hlong
  go_upto_region 3 with fail
  refine wl <| gz1 (.slice a L.length c) <| gzc (.pointer (some ⟨W1.heap.size, 0, none⟩)) (fun w' => w' = W1.alloc (.cells #[.slice a L.length c, .int .i64 0] 56)) (mk_from a L.length c W1) (fun V9 hV9 => ?_)
  subst hV9
  obtain ⟨hnm, hbn⟩ := nm_start (c := c) HKK.out HB1.out
  generalize hWq : W1.alloc (.cells #[.slice a L.length c, .int .i64 0] 56) = W2 at *
  obtain ⟨g0, hg0⟩ : ∃ q, W1.heap.size = q := ⟨_, rfl⟩
  rw [hg0] at hnm ⊢
  have HG0 : Hid (w.heap.size ≤ g0 ∧ Below w.heap.size w W2) := Lib.hid ⟨by rw [← hg0]; exact HB1.out.size, hbn⟩
  have hes := mk_entries hnm (by omega) (by omega)
  clear hnm hbn hg0 hWq
  simp only [pu]
  refine gze (fun v w' => ∃ a2 c2 X N', v = .slice a2 X.length c2 ∧ EnS W2 w' g0 c a L N' (.slice a2 X.length c2) X ∧ X.length ≤ 10 ∧ N' ≤ 400) (hes.mono fun e9 w' z => by obtain ⟨a2, c2, X, N', h1, h2, h3, h4⟩ := z; exact ⟨_, h1, a2, c2, X, N', rfl, h2, h3, by omega⟩) (fun vv W3 hq => ?_)
  obtain ⟨a9, c9, X, N1, rfl, hS, hX10, hN1⟩ := hq
  have HXR := Lib.hid (fun V (hV : Below W3.heap.size W3 V) => hS.xr.below hV)
  have HEN : Hid (X.length ≤ 10 ∧ (∀ x ∈ X, x.1.snd ∈ nms ∧ x.1.raw.length ≤ 8 ∧ x.1.prs.length ≤ 2) ∧ rawL (lE X) ≤ 80) := Lib.hid ⟨hX10, hS.sz, raw_few hS.sz hX10⟩
  have HES := Lib.hid hS
  have HNN : Hid (N1 ≤ 400) := Lib.hid hN1
  have HB3 : Hid (Below w.heap.size w W3) := Lib.hid (HG0.out.2.trans (hS.but.1.mono HG0.out.1))
  clear hes hS hX10 hN1
  simp only [pu]
  refine gz1 (.slice a9 X.length c9) <| wn ?_
  simp only [pu]
  clear hlong
  go_upto_region 4 with fail
  refine wl <| gz1 (.int .i64 q1) <| gzc (.int .i64 (pl q1 7)) (fun w' => W3 = w') (mk_place q1 7 W3 (by omega) (by omega)) (fun V9 hV9 => ?_)
  subst hV9
  simp only [pu]
  refine gzv (.int .u64 (pl q1 7)) (conv_iu rfl (pl q1 7) (pl_range q1 7 (by omega)).1 (by have := (pl_range q1 7 (by omega)).2; omega) (by kernel_rfl) _) <| gz1 (.int .u64 (pl q1 7)) <| wn ?_
  simp only [pu]
  go_upto_region 5 with fail
  refine wl <| gz1 (.int .i64 q2) <| gzc (.int .i64 (pl q2 9)) (fun w' => W3 = w') (mk_place q2 9 W3 (by omega) (by omega)) (fun V9 hV9 => ?_)
  subst hV9
  simp only [pu]
  refine gz1 (.int .i64 q3) <| gzc (.int .i64 (pl q3 13)) (fun w' => W3 = w') (mk_place q3 13 W3 (by omega) (by omega)) (fun V9 hV9 => ?_)
  subst hV9
  simp only [pu]
  refine gz1 (.int .i64 q4) <| gzc (.int .i64 (pl q4 60)) (fun w' => W3 = w') (mk_place q4 60 W3 (by omega) (by omega)) (fun V9 hV9 => ?_)
  subst hV9
  simp only [pu]
  refine gz3 (.int .i64 (pl q2 9)) (.int .i64 (pl q3 13)) (.int .i64 (pl q4 60)) <| wn ?_
  simp only [pu]
  have hp1 := pl_range q1 7 (by omega)
  have hp2 := pl_range q2 9 (by omega)
  have hp3 := pl_range q3 13 (by omega)
  have hp4 := pl_range q4 60 (by omega)
  obtain ⟨p, hp⟩ : ∃ p, pl q1 7 = p := ⟨_, rfl⟩
  obtain ⟨s, hs⟩ : ∃ s, pl q2 9 = s := ⟨_, rfl⟩
  obtain ⟨mt, hmt⟩ : ∃ m, pl q3 13 = m := ⟨_, rfl⟩
  obtain ⟨mb, hmb⟩ : ∃ m, pl q4 60 = m := ⟨_, rfl⟩
  rw [hp] at hp1
  rw [hs] at hp2
  rw [hmt] at hp3
  rw [hmb] at hp4
  simp only [hp, hs, hmt, hmb]
  have HP : Hid (0 ≤ p ∧ p < 7 ∧ 0 ≤ s ∧ s < 9 ∧ 0 ≤ mt ∧ mt < 13 ∧ 0 ≤ mb ∧ mb < 60) := Lib.hid (by omega)
  clear hp1 hp2 hp3 hp4 hp hs hmt hmb
  have hsel := q_select (c := c9) (HXR.out W3 (Below.refl _ _)) (by have := HEN.out.1; omega) (by have := HEN.out.2.2; omega) p s mt mb (by have := HP.out; omega)
  rw [show max s 0 = s by have := HP.out; omega] at hsel
  have HOL := Lib.hid (ordL_len X)
  obtain ⟨O, hO⟩ : ∃ O, ordL (lE X) = O := ⟨_, rfl⟩
  have HOP : Hid (rawL O = rawL (lE X)) := Lib.hid (by rw [← hO]; exact raw_perm (ordL_perm X))
  have hor := q_order (w := W3) (c := c9) (HXR.out W3 (Below.refl _ _)) (by have := HEN.out.1; omega) (fun x hx => by have := HEN.out.2.1 x hx; omega)
  have HOR : Hid (∀ V, Below W3.heap.size W3 V → Calls Try.prog 13 #[.slice a9 X.length c9] V fun e w' => ∃ a2 c2 Y, e = .returned (.slice a2 X.length c2) ∧ Xr w' a2 Y ∧ Y.length = X.length ∧ lE Y = O ∧ Below V.heap.size V w') := Lib.hid fun V hV => by
   rw [← hO]
   exact q_order (c := c9) (HXR.out V hV) (by have := HEN.out.1; omega) (fun x hx => by have := HEN.out.2.1 x hx; omega)
  have HBY : Hid (∀ V, Below W3.heap.size W3 V → Calls Try.prog 20 #[.slice a9 X.length c9] V fun e w' => e = .returned (.int .i64 (rawL (lE X))) ∧ Below V.heap.size V w') := Lib.hid fun V hV => r_bytes (HXR.out V hV) (by have := HEN.out.1; omega) (by have := HEN.out.2.2; omega)
  rw [hO] at hsel HOL
  obtain ⟨n, hn⟩ : ∃ n, X.length = n := ⟨_, rfl⟩
  obtain ⟨R, hR⟩ : ∃ R, rawL (lE X) = R := ⟨_, rfl⟩
  have HN : Hid (n ≤ 10 ∧ R ≤ 80) := Lib.hid ⟨by rw [← hn]; exact HEN.out.1, by rw [← hR]; exact HEN.out.2.2⟩
  rw [hR] at HOP HBY
  rw [hn] at hsel HOL HOR HBY ⊢
  clear hor hO hn hR HXR HEN HES
  cases hok : vicB O p s mt mb with
  | false =>
   rw [hok] at hsel
   rw [vicK_no hok] at hsel
   clear hok
   go_upto_region 6 with fail
   refine wl <| gz5 (.slice a9 n c9) (.int .u64 p) (.int .i64 s) (.int .i64 mt) (.int .i64 mb) <|
    gze (fun vx w' => ∃ av cv, vx = .tuple #[.slice av 0 cv, .bool false] ∧ Cs w' av (kys ([])) ∧ Below W3.heap.size W3 w') (hsel.mono fun e9 w' z => by obtain ⟨v, h1, a, c, rfl, h2, h3⟩ := z; exact ⟨_, h1, a, c, by rfl, h2, h3⟩) (fun vv W4 hq => ?_)
   obtain ⟨av, cv, rfl, hkv, hbv⟩ := hq
   clear hsel
   simp only [pu]
   refine gz5 (.tuple #[.slice av 0 cv, .bool false]) (.slice av 0 cv) (.bool false) (.slice av 0 cv) (.bool false) <| wn ?_
   simp only [pu]
   go_upto_region 7 with fail
   refine wl <| gz2 (.bool false) (.bool true) <| wn ?_
   simp only [pu]
   have hkn := known_true W4
   have HB4 := Lib.hid (HB3.out.trans (hbv.mono HB3.out.size))
   clear hkv hbv
   go_upto_region 8 with fail
   refine wl <| gz2 (.slice av 0 cv) (.int .i64 0) <| gzw (.bool true) (eql_n rfl 0 0 (by decide)) <| gz1 (.bool true) <| gzc (.bool true) (fun w' => Below W4.heap.size W4 w') (hkn) (fun W5 hW5 => ?_)
   simp only [pu]
   refine gz2 (.bool true) (.bool true) <| wn ?_
   simp only [pu]
   have HE := Lib.hid (HB4.out.trans (hW5.mono HB4.out.size))
   clear hkn hW5
   go_wp2_with fail
   go_ret
   exact ⟨rfl, HE.out⟩
  | true =>
   rw [hok] at hsel
   obtain ⟨hvk, hvl⟩ := vicK_ok hok
   have HVK := Lib.hid hvk
   have HVL := Lib.hid hvl
   have hvn := vic_le O p s mt mb
   have HNO := Lib.hid (fun j (h : j < vicN O p s mt mb) => vic_no h)
   have HYES : Hid (fitJ O s mt mb (vicN O p s mt mb) = true) := Lib.hid hok
   obtain ⟨v, hv⟩ : ∃ v, vicN O p s mt mb = v := ⟨_, rfl⟩
   have HVN : Hid (v ≤ n) := Lib.hid (by rw [← hv, ← HOL.out]; exact hvn)
   obtain ⟨K, hK⟩ : ∃ K, vicK O p s mt mb = K := ⟨_, rfl⟩
   rw [hK] at HVK HVL hsel
   rw [hv] at HVK HVL HNO HYES
   clear hvk hvl hvn hv hK hok
   go_upto_region 6 with fail
   refine wl <| gz5 (.slice a9 n c9) (.int .u64 p) (.int .i64 s) (.int .i64 mt) (.int .i64 mb) <|
    gze (fun vx w' => ∃ av cv, vx = .tuple #[.slice av v cv, .bool true] ∧ Cs w' av (kys (K)) ∧ Below W3.heap.size W3 w') (hsel.mono fun e9 w' z => by obtain ⟨v, h1, a, c, rfl, h2, h3⟩ := z; exact ⟨_, h1, a, c, by rw [HVL.out], h2, h3⟩) (fun vv W4 hq => ?_)
   obtain ⟨av, cv, rfl, hkv, hbv⟩ := hq
   clear hsel
   simp only [pu]
   refine gz5 (.tuple #[.slice av v cv, .bool true]) (.slice av v cv) (.bool true) (.slice av v cv) (.bool true) <| wn ?_
   simp only [pu]
   go_upto_region 7 with fail
   refine wl <| gz2 (.bool true) (.bool false) <| wn ?_
   simp only [pu]
   have HB4 : Hid (Below w.heap.size w W4 ∧ Below W3.heap.size W3 W4) := Lib.hid ⟨HB3.out.trans (hbv.mono HB3.out.size), hbv⟩
   have hord := HOR.out W4 hbv
   have HKV := Lib.hid (fun V (hV : Below W4.heap.size W4 V) => hkv.below hV)
   clear hbv hkv HOR
   go_upto_region 9 with fail
   refine wl <| gz1 (.slice a9 n c9) <| gze (fun v w' => ∃ a2 c2 Y, v = .slice a2 n c2 ∧ Xr w' a2 Y ∧ Y.length = n ∧ lE Y = O ∧ Below W4.heap.size W4 w') (hord.mono fun e9 w' z => by obtain ⟨a2, c2, Y, h1, h2⟩ := z; exact ⟨_, h1, a2, c2, Y, rfl, h2⟩) (fun vv W5 hq => ?_)
   obtain ⟨ao, co, Y, rfl, hxy, hyl, hye, hb5⟩ := hq
   clear hord
   simp only [pu]
   refine gz1 (.slice ao n co) <| wn ?_
   simp only [pu]
   have HB5 : Hid (Below w.heap.size w W5 ∧ Below W3.heap.size W3 W5 ∧ Below W4.heap.size W4 W5) := Lib.hid ⟨HB4.out.1.trans (hb5.mono HB4.out.1.size), HB4.out.2.trans (hb5.mono HB4.out.2.size), hb5⟩
   have HXY := Lib.hid (fun V (hV : Below W5.heap.size W5 V) => hxy.below hV)
   have HYE : Hid (Y.length = n ∧ ∀ i, i < n → O.getD i zEn = (Y.getD i zEA).1) := Lib.hid ⟨hyl, fun i hi => by rw [← hye]; exact lE_at Y i (by omega)⟩
   clear hxy hyl hye hb5
   have hby := HBY.out W5 HB5.out.2.1
   go_upto_region 10 with fail
   refine wl <| gz4 (.slice av v cv) (.int .i64 v) (.slice a9 n c9) (.int .i64 n) <| gzb (gtr_n rfl (v) (n) (decide_eq_false (by have := HVN.out; omega))) <| gz5 (.bool false) (.slice ao n co) (.int .i64 n) (.slice a9 n c9) (.int .i64 n) <|
    gzb (neq_n rfl (n) (n) (decide_eq_false (fun h => h rfl))) <| gz1 (.bool false) <| wn ?_
   simp only [pu]
   go_upto_region 12 with fail
   refine wl <| gz2 (.slice a9 n c9) (.int .i64 n) <| gzw (.int .i64 ((n + 1 : Nat) : Int)) (add_nn rfl n 1 (by have := HN.out; omega)) <| gz1 (.slice a9 n c9) <| gzc (.int .i64 R) (fun w' => Below W5.heap.size W5 w') (hby) (fun W6 hW6 => ?_)
   simp only [pu]
   refine gz1 (.int .i64 s) <| gzw (.int .i64 ((R : Int) + s)) (add_i rfl R s (by have := HN.out; have := HP.out; omega)) <| gz2 (.int .i64 ((n + 1 : Nat) : Int)) (.int .i64 ((R : Int) + s)) <| wn ?_
   simp only [pu]
   have HB6 : Hid (Below W4.heap.size W4 W6 ∧ Below w.heap.size w W6 ∧ Below W5.heap.size W5 W6) := Lib.hid ⟨HB5.out.2.2.trans (hW6.mono HB5.out.2.2.size), HB5.out.1.trans (hW6.mono HB5.out.1.size), hW6⟩
   clear hby hW6
   go_upto_region 13 with fail
   refine wl <| gz3 (.slice av v cv) (.int .i64 v) (.int .i64 0) <| wn ?_
   simp only [pu]
   go_wp2_with fail
   go_loopg [16, 17, 76] v (fun gg s16 s17 s76 wx => ∃ (i cn : Nat) (bt : Int), s76 = .int .i64 i ∧ s16 = .int .i64 cn ∧ s17 = .int .i64 bt ∧ i ≤ v ∧ gg + i = v ∧ Hid (cn = n + 1 - i ∧ bt = ((R - rawL (O.take i) : Nat) : Int) + s) ∧ Hid (Below W6.heap.size W6 wx))
   case atStart => exact ⟨0, n + 1, _, rfl, rfl, rfl, by omega, by omega, Lib.hid ⟨rfl, by simp [rawL]⟩, Lib.hid (Below.refl _ _)⟩
   case round =>
    obtain ⟨i, cn, bt, rfl, rfl, rfl, hiv, hg, HC, HR⟩ := hrel
    have HGK : Hid (gk + i = v) := Lib.hid hg
    have HI := Lib.hid hiv
    clear hg
    by_cases hlt : i < v
    ·skip
     have hin : i < n := by have := HVN.out; omega
     obtain ⟨bk, ok, ek, -, hrk⟩ := fl_range kcl kcl_len (by omega) zKy (HKV.out wr (HB6.out.1.trans (HR.out.mono HB6.out.1.size))) (i := i) (by rw [HVL.out]; exact hlt)
     obtain rfl := ek
     obtain ⟨bo, oo, eo, -, hro⟩ := (HXY.out wr (HB6.out.2.2.trans (HR.out.mono HB6.out.2.2.size))).rg (i := i) (by rw [HYE.out.1]; exact hin)
     obtain rfl := eo
     have hoe := HYE.out.2 i hin
     obtain ⟨x, hx⟩ : ∃ x, Y.getD i zEA = x := ⟨_, rfl⟩
     rw [hx] at hro hoe
     have hke : K.getD i zKy = x.1.k := by
      rw [HVK.out, List.getD_eq_getElem?_getD, List.getElem?_map, List.getElem?_take_of_lt hlt, ← hoe, List.getD_eq_getElem?_getD, List.getElem?_eq_getElem (show i < O.length by rw [HOL.out]; exact hin)]
      rfl
     rw [hke] at hrk
     obtain ⟨hf, hpr⟩ := HNO.out i hlt
     rw [hoe] at hpr
     rw [fit_sum_no (by rw [HOL.out]; omega) HP.out.2.2.1, HOL.out, HOP.out, ← HC.out.1, ← HC.out.2] at hf
     have hrs := raw_step O i (by rw [HOL.out]; exact hin)
     have hrt := raw_take O (i + 1)
     rw [hoe] at hrs
     rw [HOP.out] at hrt
     have HS : Hid (rawL (O.take (i + 1)) = rawL (O.take i) + x.1.raw.length ∧ rawL (O.take (i + 1)) ≤ R) := Lib.hid ⟨hrs, hrt⟩
     obtain ⟨V2, hst2, hb2, hX19⟩ := new_bx (c := kcA fun _ => 0) (c' := kcA x.1.k) (ty := 47) wr rfl (by kernel_rfl) (by kernel_rfl)
     have hro2 := rg_below hro hb2
     have HR2 : Hid (Below W6.heap.size W6 V2) := Lib.hid (HR.out.trans (hb2.mono HR.out.size))
     obtain ⟨g19, hg19⟩ : ∃ q, wr.heap.size = q := ⟨_, rfl⟩
     rw [hg19] at hX19
     have HX19 := Lib.hid (fun V (hV : Below V2.heap.size V2 V) => hX19.below hX19.lt hV)
     have HRO := Lib.hid (fun V (hV : Below V2.heap.size V2 V) => rg_below hro2 hV)
     clear hke hoe hx hrs hrt hro hX19 hro2 hb2
     go_upto_region 14 with fail
     refine wl <| gzb (lss_n rfl (i) (v) dT) <| wn ?_
     simp only [pu]
     go_upto_region 15 with fail
     refine wl <| gz1 (.int .i64 i) <| gzv (.pointer (some ⟨bk, ok + i * 32, none⟩)) (idx_ky bk ok v cv i hlt _ _ _ rfl (by kernel_rfl) (by kernel_rfl)) <| gzl rfl ⟨bk, ok + i * 32, none⟩ (.agg (kcA x.1.k)) (load_kr hrk) ?_
     simp only [pu]
     refine run_to rfl (some 19) rfl (.pointer (some ⟨wr.heap.size, 0, none⟩)) (wr.alloc (.cells (kcA fun _ => 0) 47)) (by kernel_rfl) ?_
     simp only [pu]
     refine gz1 (.int .i64 i) <| gzs rfl (hst2) <| wn ?_
     simp only [pu]
     rw [hg19]
     clear hst2 hrk hg19
     by_cases k1 : (cn : Int) ≤ mt
     ·skip
      go_upto_region 16 with fail
      refine wp_region_class (C := fun U => Below V2.heap.size V2 U) (by kernel_rfl) (by kernel_rfl) ((Below.refl _ V2).drew) ?_
      refine gy (.int .i64 cn) <| gy (.int .i64 mt) <| gyv (.bool true) (fun U hU => leq_n rfl (cn : Int) mt (decide_eq_true k1) (by kernel_rfl) (by kernel_rfl) U) <| gy (.bool true) <| gy (.int .i64 bt) <| gy (.int .i64 mb) <|
        gyv (.bool false) (fun U hU => leq_n rfl bt mb (decide_eq_false (fun h => hf ⟨k1, h⟩)) (by kernel_rfl) (by kernel_rfl) U) <| gy (.bool false) <| gy (.bool false) <| gy (.slice (some ⟨bo, oo, none⟩) n co) <| gy (.int .i64 i) <|
        gyv (.pointer (some ⟨bo, oo + i * 41, none⟩)) (fun U hU => idx_en bo oo n co i hin U _ _ rfl (by kernel_rfl) (by kernel_rfl)) <| gy (.pointer (some ⟨bo, oo + i * 41, none⟩)) <| gyl rfl ⟨bo, oo + i * 41, none⟩ (.agg (kcA x.1.k)) (fun U hU => load_ky (HRO.out U hU)) <|
        gyl rfl ⟨g19, 0, none⟩ (.agg (kcA x.1.k)) (fun U hU => load_kb (HX19.out U hU)) <| gyv (.bool false) (fun U hU => neq_kk rfl x.1.k (by kernel_rfl) (by kernel_rfl) U) <| gy (.bool false) <| gy (.bool false) <| gy (.slice (some ⟨bo, oo, none⟩) n co) <| gy (.int .i64 i) <|
        gyv (.pointer (some ⟨bo, oo + i * 41, none⟩)) (fun U hU => idx_en bo oo n co i hin U _ _ rfl (by kernel_rfl) (by kernel_rfl)) <| gy (.pointer (some ⟨bo, oo + i * 41 + 36, none⟩)) <|
        gyl rfl ⟨bo, oo + i * 41 + 36, none⟩ (.int .u64 x.1.pri) (fun U hU => rg_cell (HRO.out U hU) (j := 36) rfl (by kernel_rfl)) <| gy (.int .u64 p) <| gyv (.bool false) (fun U hU => geq_w rfl x.1.pri p dF (by kernel_rfl) (by kernel_rfl) U) <| gy (.bool false) ?_
      simp only [pu]
      apply wpQuiet_nil
      intro V3 hV3
      have HR3 : Hid (Below W6.heap.size W6 V3) := Lib.hid (HR2.out.trans (hV3.mono HR2.out.size))
      have hrq := HRO.out V3 hV3
      clear hV3 k1 hf hpr
      go_upto_region 18 with fail
      refine wl <| gz1 (.int .i64 cn) <| gzw (.int .i64 ((cn - 1 : Nat) : Int)) (sub_nn rfl cn 1 (by have := HC.out; have := HVN.out; omega) (by have := HC.out; have := HN.out; omega)) <| gz1 (.int .i64 ((cn - 1 : Nat) : Int)) <| wn ?_
      simp only [pu]
      go_upto_region 19 with fail
      refine wl <| gz3 (.int .i64 bt) (.slice (some ⟨bo, oo, none⟩) n co) (.int .i64 i) <| gzv (.pointer (some ⟨bo, oo + i * 41, none⟩)) (idx_en bo oo n co i hin _ _ _ rfl (by kernel_rfl) (by kernel_rfl)) <| gz1 (.pointer (some ⟨bo, oo + i * 41 + 32, none⟩)) <|
       gzl rfl ⟨bo, oo + i * 41 + 32, none⟩ (.slice x.2.ra x.1.raw.length x.2.rc) (rg_cell hrq (j := 32) rfl (by kernel_rfl)) <| gz1 (.int .i64 x.1.raw.length) <|
       gzw (.int .i64 (bt - x.1.raw.length)) (sub_i rfl bt x.1.raw.length (by have := HC.out; have := HS.out; have := HN.out; have := HP.out; omega)) <| gz1 (.int .i64 (bt - x.1.raw.length)) <| wn ?_
      simp only [pu]
      go_upto_region 20 with fail
      refine wl <| gzv (.int .i64 (i + 1 : Nat)) (add_one rfl i (by have := HN.out; have := HVN.out; omega) (by kernel_rfl) _) <| gz1 (.int .i64 (i + 1 : Nat)) <| wn ?_
      simp only [pu]
      clear hrq
      go_wp2_with fail
      go_roundg (v - (i + 1))
      case measure => have := HGK.out; omega
      case rel => exact ⟨i + 1, cn - 1, _, rfl, rfl, rfl, by omega, by omega, Lib.hid ⟨by have := HC.out; omega, by have := HC.out; have := HS.out; omega⟩, HR3⟩
     ·skip
      go_upto_region 16 with fail
      refine wp_region_class (C := fun U => Below V2.heap.size V2 U) (by kernel_rfl) (by kernel_rfl) ((Below.refl _ V2).drew) ?_
      refine gy (.int .i64 cn) <| gy (.int .i64 mt) <| gyv (.bool false) (fun U hU => leq_n rfl (cn : Int) mt (decide_eq_false k1) (by kernel_rfl) (by kernel_rfl) U) <| gy (.bool false) <| gyn <| gyn <| gyn <| gy (.bool false) <| gy (.bool false) <| gy (.slice (some ⟨bo, oo, none⟩) n co) <|
        gy (.int .i64 i) <| gyv (.pointer (some ⟨bo, oo + i * 41, none⟩)) (fun U hU => idx_en bo oo n co i hin U _ _ rfl (by kernel_rfl) (by kernel_rfl)) <| gy (.pointer (some ⟨bo, oo + i * 41, none⟩)) <| gyl rfl ⟨bo, oo + i * 41, none⟩ (.agg (kcA x.1.k)) (fun U hU => load_ky (HRO.out U hU)) <|
        gyl rfl ⟨g19, 0, none⟩ (.agg (kcA x.1.k)) (fun U hU => load_kb (HX19.out U hU)) <| gyv (.bool false) (fun U hU => neq_kk rfl x.1.k (by kernel_rfl) (by kernel_rfl) U) <| gy (.bool false) <| gy (.bool false) <| gy (.slice (some ⟨bo, oo, none⟩) n co) <| gy (.int .i64 i) <|
        gyv (.pointer (some ⟨bo, oo + i * 41, none⟩)) (fun U hU => idx_en bo oo n co i hin U _ _ rfl (by kernel_rfl) (by kernel_rfl)) <| gy (.pointer (some ⟨bo, oo + i * 41 + 36, none⟩)) <|
        gyl rfl ⟨bo, oo + i * 41 + 36, none⟩ (.int .u64 x.1.pri) (fun U hU => rg_cell (HRO.out U hU) (j := 36) rfl (by kernel_rfl)) <| gy (.int .u64 p) <| gyv (.bool false) (fun U hU => geq_w rfl x.1.pri p dF (by kernel_rfl) (by kernel_rfl) U) <| gy (.bool false) ?_
      simp only [pu]
      apply wpQuiet_nil
      intro V3 hV3
      have HR3 : Hid (Below W6.heap.size W6 V3) := Lib.hid (HR2.out.trans (hV3.mono HR2.out.size))
      have hrq := HRO.out V3 hV3
      clear hV3 k1 hf hpr
      go_upto_region 18 with fail
      refine wl <| gz1 (.int .i64 cn) <| gzw (.int .i64 ((cn - 1 : Nat) : Int)) (sub_nn rfl cn 1 (by have := HC.out; have := HVN.out; omega) (by have := HC.out; have := HN.out; omega)) <| gz1 (.int .i64 ((cn - 1 : Nat) : Int)) <| wn ?_
      simp only [pu]
      go_upto_region 19 with fail
      refine wl <| gz3 (.int .i64 bt) (.slice (some ⟨bo, oo, none⟩) n co) (.int .i64 i) <| gzv (.pointer (some ⟨bo, oo + i * 41, none⟩)) (idx_en bo oo n co i hin _ _ _ rfl (by kernel_rfl) (by kernel_rfl)) <| gz1 (.pointer (some ⟨bo, oo + i * 41 + 32, none⟩)) <|
       gzl rfl ⟨bo, oo + i * 41 + 32, none⟩ (.slice x.2.ra x.1.raw.length x.2.rc) (rg_cell hrq (j := 32) rfl (by kernel_rfl)) <| gz1 (.int .i64 x.1.raw.length) <|
       gzw (.int .i64 (bt - x.1.raw.length)) (sub_i rfl bt x.1.raw.length (by have := HC.out; have := HS.out; have := HN.out; have := HP.out; omega)) <| gz1 (.int .i64 (bt - x.1.raw.length)) <| wn ?_
      simp only [pu]
      go_upto_region 20 with fail
      refine wl <| gzv (.int .i64 (i + 1 : Nat)) (add_one rfl i (by have := HN.out; have := HVN.out; omega) (by kernel_rfl) _) <| gz1 (.int .i64 (i + 1 : Nat)) <| wn ?_
      simp only [pu]
      clear hrq
      go_wp2_with fail
      go_roundg (v - (i + 1))
      case measure => have := HGK.out; omega
      case rel => exact ⟨i + 1, cn - 1, _, rfl, rfl, rfl, by omega, by omega, Lib.hid ⟨by have := HC.out; omega, by have := HC.out; have := HS.out; omega⟩, HR3⟩
    ·skip
     obtain rfl : i = v := by omega
     have hf := HYES.out
     rw [fit_sum (by rw [HOL.out]; exact HVN.out) HP.out.2.2.1, HOL.out, HOP.out, ← HC.out.1, ← HC.out.2] at hf
     have hkn := known_true wr
     go_upto_region 14 with fail
     refine wl <| gzb (lss_n rfl (i) (i) dF) <| wn ?_
     simp only [pu]
     go_upto_region 21 with fail
     refine wl <| gz2 (.int .i64 cn) (.int .i64 mt) <| gzb (leq_n rfl (cn) (mt) (decide_eq_true (hf.1))) <| gz3 (.bool true) (.int .i64 bt) (.int .i64 mb) <|
      gzb (leq_n rfl (bt) (mb) (decide_eq_true (hf.2))) <| gz2 (.bool true) (.bool true) <| gzc (.bool true) (fun w' => Below wr.heap.size wr w') (hkn) (fun W9 hW9 => ?_)
     simp only [pu]
     refine gz2 (.bool true) (.bool true) <| wn ?_
     simp only [pu]
     have HE := Lib.hid ((HB6.out.2.1.trans (HR.out.mono HB6.out.2.1.size)).trans (hW9.mono (by have := HR.out.size; have := HB6.out.2.1.size; omega)))
     clear hkn hW9 hf
     go_wp2_with fail
     go_ret
     exact ⟨rfl, HE.out⟩
end Go.Proofs.Ytgkckblcekbafaa
