/-
 The reference's Select: contract.
-/
import Derived.Test.YtgkckblcekbafaaVD
namespace Go.Proofs.Ytgkckblcekbafaa
attribute [local irreducible] wpList wpQuiet
open Go.RowKit
set_option maxRecDepth 100000
set_option linter.unusedSimpArgs false
set_option linter.unusedVariables false

theorem fit_ref {O : List En} {sz mt mb : Int} {i cn bt n : Nat} (hn : O.length = n) (hi : i ≤ n) (hc : cn = n + 1 - i) (hb : bt = rawL O - rawL (O.take i)) (hs : 0 ≤ sz) : fitJ O sz mt mb i = (decide ((cn : Int) ≤ mt) && (decide ((bt : Int) ≤ mb) && decide (sz ≤ mb - bt))) := by
 unfold fitJ fitB
 rw [hn, ← hb]
 rw [Bool.eq_iff_iff]
 simp only [Bool.and_eq_true, decide_eq_true_eq]
 omega
set_option maxRecDepth 100000 in
set_option maxHeartbeats 8000000 in
theorem r_select {w : World} {a : Option Addr} {c : Nat} {X : List (En × Ad)} (h : Xr w a X) (hl : X.length ≤ 1000) (hr : rawL (lE X) ≤ 40000000) (pri sz mt mb : Int) (hm : mb < 9223372036854775808) : Calls Try.prog 17 #[.slice a X.length c, .int .u64 pri, .int .i64 sz, .int .i64 mt, .int .i64 mb] w fun e w' => ∃ v, e = .returned (.tuple #[v, .bool (vicB (ordL (lE X)) pri (max sz 0) mt mb)]) ∧ KyO w w' v (vicK (ordL (lE X)) pri (max sz 0) mt mb) := by
 have hby := r_bytes (c := c) h (by omega) hr
 have HRO : Hid (∀ V, Below w.heap.size w V → Calls Try.prog 14 #[.slice a X.length c] V fun e w' => ∃ v, e = .returned v ∧ XrO V (ordX X) v w') := Lib.hid fun V hV => r_order (h.below hV) hl
 have hol := ord_len X
 have hlo := lE_ord X
 have hle := lE_at (ordX X)
 have hll := lE_len (ordX X)
 rw [hlo] at hle hll
 have hrl : rawL (ordL (lE X)) = rawL (lE X) := by
  rw [← hlo]
  exact raw_perm ((ord_perm X).map _)
 obtain ⟨s, hs⟩ : ∃ s, max sz 0 = s := ⟨_, rfl⟩
 have HS : Hid (max sz 0 = s ∧ 0 ≤ s ∧ mb < 9223372036854775808) := Lib.hid ⟨hs, by omega, hm⟩
 obtain ⟨R, hR⟩ : ∃ R, rawL (lE X) = R := ⟨_, rfl⟩
 obtain ⟨O, hO⟩ : ∃ O, ordL (lE X) = O := ⟨_, rfl⟩
 obtain ⟨Y, hY⟩ : ∃ Y, ordX X = Y := ⟨_, rfl⟩
 obtain ⟨n, hn⟩ : ∃ n, X.length = n := ⟨_, rfl⟩
 have HOE : Hid (∀ i, i < n → O.getD i zEn = (Y.getD i zEA).1) := Lib.hid fun i hi => by rw [← hO, ← hY]; exact hle i (by omega)
 rw [hR] at hby hr hrl
 rw [hO] at hll hrl ⊢
 rw [hY] at HRO hll hol
 rw [hn] at hby HRO hol hl ⊢
 rw [hs]
 have HN : Hid (n ≤ 1000 ∧ O.length = n ∧ Y.length = n ∧ R ≤ 40000000 ∧ rawL O = R) := Lib.hid ⟨hl, by omega, by omega, hr, hrl⟩
 clear h hl hr hm hol hlo hle hll hrl hs hR hO hY hn
 go_enter Try.func17, Try.ntmps17
 go_upto_region 1 with fail
 refine wl <| gz1 (.int .i64 sz) <| gzv (.int .i64 s) (by rw [← HS.out.1]; exact max_i rfl sz 0 (by kernel_rfl) (by kernel_rfl) _) <| gz1 (.int .i64 s) <| wn ?_
 simp only [pu]
 go_upto_region 2 with fail
 refine wl <| gz2 (.slice a n c) (.int .i64 n) <| gzv (.int .i64 (n + 1 : Nat)) (add_one rfl n (by have := HN.out; omega) (by kernel_rfl) _) <| gz1 (.slice a n c) <| gzc (.int .i64 R) (fun w' => Below w.heap.size w w') (hby) (fun W3 hW3 => ?_)
 simp only [pu]
 refine gz2 (.int .i64 (n + 1 : Nat)) (.int .i64 R) <| wn ?_
 simp only [pu]
 have HB3 := Lib.hid hW3
 clear hby hW3
 have hlv := HRO.out W3 HB3.out
 go_upto_region 3 with fail
 refine wl <| gz1 (.slice none 0 0) <| wn ?_
 simp only [pu]
 go_upto_region 4 with fail
 refine wl <| gz1 (.slice a n c) <| gze (fun v w' => XrO W3 Y v w') (hlv) (fun v9 V1 hV1 => ?_)
 obtain ⟨a9, c9, rfl, hxr, -, -, hb1⟩ := hV1
 rw [HN.out.2.2.1]
 simp only [pu]
 refine gz2 (.int .i64 n) (.int .i64 0) <| wn ?_
 simp only [pu]
 have HRG : Hid (∀ V, Below V1.heap.size V1 V → ∀ i, i < n → ∃ b off, a9 = some ⟨b, off, none⟩ ∧ V.rangeAt b (off + i * 41) (enp (Y.getD i zEA))) := Lib.hid fun V hV i hi => by
  obtain ⟨b, off, e1, -, h2⟩ := (hxr.below hV).rg (i := i) (by rw [HN.out.2.2.1]; exact hi)
  exact ⟨b, off, e1, h2⟩
 have HB4 : Hid (Below w.heap.size w V1) := Lib.hid (HB3.out.trans (hb1.mono HB3.out.size))
 clear hlv hb1 hxr HRO
 go_wp2_with fail
 go_loopg [12, 13, 14, 27] n (fun gg s12 s13 s14 s27 wx => ∃ (i cn bt : Nat) (v : Value), s27 = .int .i64 i ∧ s12 = .int .i64 cn ∧ s13 = .int .i64 bt ∧ s14 = v ∧ i ≤ n ∧ gg + i = n ∧ Hid (cn = n + 1 - i ∧ bt = R - rawL (O.take i)) ∧ Hid ((∀ j, j < i → stpJ O pri s mt mb j = false) ∧ Rowky wx V1.heap.size v ((O.take i).map En.k) ∧ Below V1.heap.size V1 wx))
 case atStart => exact ⟨0, n + 1, R, _, rfl, rfl, rfl, rfl, by omega, by omega, Lib.hid ⟨rfl, by simp [rawL]⟩, Lib.hid ⟨fun j h => by omega, World.ownsRow_nil _ _ _ _, Below.refl _ _⟩⟩
 case round =>
  obtain ⟨i, cn, bt, v, rfl, rfl, rfl, rfl, hin, hg, HC, HR⟩ := hrel
  have HGK : Hid (gk + i = n) := Lib.hid hg
  have HI := Lib.hid hin
  clear hg
  by_cases hlt : i < n
  ·skip
   obtain ⟨b, off, hbb, hrg⟩ := HRG.out wr HR.out.2.2 i hlt
   obtain rfl := hbb
   have hoe := HOE.out i hlt
   obtain ⟨x, hx⟩ : ∃ x, Y.getD i zEA = x := ⟨_, rfl⟩
   rw [hx] at hrg hoe
   have HX := Lib.hid hoe
   obtain ⟨V2, hst2, hb2, hX17⟩ := new_bx (c := enA zEn zAd) (c' := enA x.1 x.2) (ty := 50) wr rfl (enA_one _ _) (by kernel_rfl)
   have HBW := Lib.hid hb2
   have HBV : Hid (Below V1.heap.size V1 V2) := Lib.hid (HR.out.2.2.trans (hb2.mono HR.out.2.2.size))
   obtain ⟨g17, hg17⟩ : ∃ g, wr.heap.size = g := ⟨_, rfl⟩
   rw [hg17] at hX17
   clear hoe hx hb2
   go_upto_region 5 with fail
   refine wl <| gzb (lss_n rfl (i) (n) dT) <| wn ?_
   simp only [pu]
   go_upto_region 6 with fail
   refine wl <| gzv (.pointer (some ⟨b, off + i * 41, none⟩)) (idx_en b off n c9 i hlt _ _ _ rfl (by kernel_rfl) (by kernel_rfl)) <| gzl rfl ⟨b, off + i * 41, none⟩ (.agg (enA x.1 x.2)) (load_en hrg) ?_
   simp only [pu]
   refine run_to rfl (some 16) rfl (.pointer (some ⟨wr.heap.size, 0, none⟩)) (wr.alloc (.cells (enA zEn zAd) 50)) (by kernel_rfl) ?_
   simp only [pu]
   refine gzs rfl (hst2) <| wn ?_
   rw [hg17]
   clear hst2 hrg hg17
   have hfr := fit_ref (O := O) (sz := s) (mt := mt) (mb := mb) (i := i) (cn := cn) (bt := bt) HN.out.2.1 HI.out HC.out.1 (by rw [HN.out.2.2.2.2]; exact HC.out.2) HS.out.2.1
   have hft := r_fits V2 bt s mb (by have := HC.out; have := HN.out; omega) HS.out.2.1 HS.out.2.2
   by_cases k1 : (cn : Int) ≤ mt
   ·skip
    rw [decide_eq_true k1, Bool.true_and] at hfr
    rw [← hfr] at hft
    clear hfr
    cases hf : fitJ O s mt mb i with
    | true =>
     rw [hf] at hft
     go_upto_region 7 with fail
     refine wl <| gz2 (.int .i64 cn) (.int .i64 mt) <| gzb (leq_n rfl (cn) (mt) (decide_eq_true (k1))) <| gz4 (.bool true) (.int .i64 bt) (.int .i64 s) (.int .i64 mb) <| gzc (.bool true) (fun w' => V2 = w') (hft) (fun V9 hV9 => ?_)
     subst hV9
     simp only [pu]
     refine gz1 (.bool true) <| wn ?_
     simp only [pu]
     clear hft k1
     clear hX17
     have hst := stp_iff.2 (.inl hf : fitJ O s mt mb i = true ∨ pri ≤ (O.getD i zEn).pri)
     obtain ⟨-, hvb, hvk⟩ := vic_at (O := O) (pri := pri) (sz := s) (mt := mt) (mb := mb) (k := i) (by rw [HN.out.2.1]; exact HI.out) HR.out.1 (by rw [HN.out.2.1]; exact fun _ => hst)
     rw [hf] at hvb hvk
     have HVB := Lib.hid hvb
     have HVK := Lib.hid hvk
     clear hvb hvk hf
     clear hst
     have HE : Hid (KyO w V2 u14 (vicK O pri s mt mb)) := Lib.hid (by rw [HVK.out]; exact KyO.own (HR.out.2.1.below HBW.out) (HB4.out.trans (HBV.out.mono HB4.out.size)))
     go_upto_region 8 with fail
     refine wl <| gz3 (u14) (u14) (.bool true) <| wn ?_
     simp only [pu]
     go_wp2_with fail
     go_ret2
     exact ⟨u14, congrArg (fun q => Ending.returned (Value.tuple #[u14, Value.bool q])) HVB.out.symm, HE.out⟩
    | false =>
     rw [hf] at hft
     go_upto_region 7 with fail
     refine wl <| gz2 (.int .i64 cn) (.int .i64 mt) <| gzb (leq_n rfl (cn) (mt) (decide_eq_true (k1))) <| gz4 (.bool true) (.int .i64 bt) (.int .i64 s) (.int .i64 mb) <| gzc (.bool false) (fun w' => V2 = w') (hft) (fun V9 hV9 => ?_)
     subst hV9
     simp only [pu]
     refine gz1 (.bool false) <| wn ?_
     simp only [pu]
     clear hft k1
     by_cases hp : pri ≤ x.1.pri
     ·skip
      go_upto_region 9 with fail
      refine wl <| gz1 (.pointer (some ⟨g17, 36, none⟩)) <| gzl rfl ⟨g17, 36, none⟩ (.int .u64 x.1.pri) (rg_cell (bx_range hX17) (j := 36) rfl (by kernel_rfl)) <| gz1 (.int .u64 pri) <| gzb (geq_w rfl x.1.pri pri (decide_eq_true hp)) <|
       wpList_nil ?_
      simp only [pu]
      clear hX17
      have hst := stp_iff.2 (.inr (by rw [HX.out]; exact hp) : fitJ O s mt mb i = true ∨ pri ≤ (O.getD i zEn).pri)
      obtain ⟨-, hvb, hvk⟩ := vic_at (O := O) (pri := pri) (sz := s) (mt := mt) (mb := mb) (k := i) (by rw [HN.out.2.1]; exact HI.out) HR.out.1 (by rw [HN.out.2.1]; exact fun _ => hst)
      rw [hf] at hvb hvk
      have HVB := Lib.hid hvb
      have HVK := Lib.hid hvk
      clear hvb hvk hf
      clear hst hp
      have HE : Hid (KyO w V2 (.slice none 0 0) (vicK O pri s mt mb)) := Lib.hid (by rw [HVK.out]; exact KyO.nil (HB4.out.trans (HBV.out.mono HB4.out.size)))
      go_upto_region 10 with fail
      refine wl <| gz2 (.slice none 0 0) (.bool false) <| wn ?_
      simp only [pu]
      go_wp2_with fail
      go_ret2
      exact ⟨_, congrArg (fun q => Ending.returned (Value.tuple #[.slice none 0 0, Value.bool q])) HVB.out.symm, HE.out⟩
     ·skip
      go_upto_region 9 with fail
      refine wl <| gz1 (.pointer (some ⟨g17, 36, none⟩)) <| gzl rfl ⟨g17, 36, none⟩ (.int .u64 x.1.pri) (rg_cell (bx_range hX17) (j := 36) rfl (by kernel_rfl)) <| gz1 (.int .u64 pri) <| gzb (geq_w rfl x.1.pri pri (decide_eq_false hp)) <|
       wpList_nil ?_
      simp only [pu]
      have HST : Hid (stpJ O pri s mt mb i = false) := Lib.hid (stp_no.2 ⟨hf, by rw [HX.out]; omega⟩)
      clear hf hp
      obtain ⟨v2, V3, hap, hO3, hb3, hX18⟩ := grow_kx (HR.out.2.1.below HBW.out) HBV.out.size x.1.k (by rw [List.length_map, List.length_take]; have := HN.out; omega) hX17 (by decide)
      rw [show (O.take i).map En.k ++ [x.1.k] = (O.take (i + 1)).map En.k by rw [take_k O i (by rw [HN.out.2.1]; exact hlt), HX.out]] at hO3
      have hq := raw_step O i (by rw [HN.out.2.1]; exact hlt)
      have hq2 := raw_take O (i + 1)
      rw [HX.out] at hq
      rw [HN.out.2.2.2.2] at hq2
      have HQ : Hid (rawL (O.take (i + 1)) = rawL (O.take i) + x.1.raw.length ∧ rawL (O.take (i + 1)) ≤ R) := Lib.hid ⟨hq, hq2⟩
      have HR3 : Hid ((∀ j, j < i + 1 → stpJ O pri s mt mb j = false) ∧ Rowky V3 V1.heap.size v2 ((O.take (i + 1)).map En.k) ∧ Below V1.heap.size V1 V3) := Lib.hid ⟨fun j hj => by
       rcases Nat.lt_or_ge j i with h3 | h3
       ·exact HR.out.1 j h3
       ·obtain rfl : j = i := by omega
        exact HST.out, hO3, HBV.out.trans hb3⟩
      clear hO3 hb3 hq hq2
      go_upto_region 11 with fail
      refine wl <| gz2 (u14) (.pointer (some ⟨g17, 0, none⟩)) <| gzl rfl ⟨g17, 0, none⟩ (.agg (kcA x.1.k)) (load_ky (bx_range hX17)) ?_
      simp only [pu]
      refine gw_build (by kernel_rfl) (some 48) rfl 39 1 #[(0, .tmp 47)] rfl #[(0, .agg (kcA x.1.k))] (by kernel_rfl) (.slice (some ⟨V2.heap.size, 0, none⟩) 1 1) _ (build_ky x.1.k V2) ?_
      simp only [pu]
      refine append_step rfl (some 49) rfl 39 rfl (.tmp 45) (.tmp 48) 39 rfl u14 (.slice (some ⟨V2.heap.size, 0, none⟩) 1 1) v2 V3 (by kernel_rfl) (by kernel_rfl) hap ?_
      simp only [pu]
      refine gz1 (v2) <| wn ?_
      simp only [pu]
      clear hap
      go_upto_region 12 with fail
      refine wl <| gz1 (.int .i64 cn) <| gzw (.int .i64 ((cn - 1 : Nat) : Int)) (sub_nn rfl cn 1 (by have := HC.out; have := HGK.out; omega) (by have := HC.out; have := HN.out; omega)) <| gz1 (.int .i64 ((cn - 1 : Nat) : Int)) <| wn ?_
      simp only [pu]
      go_upto_region 13 with fail
      refine wl <| gz2 (.int .i64 bt) (.pointer (some ⟨g17, 32, none⟩)) <| gzl rfl ⟨g17, 32, none⟩ (.slice x.2.ra x.1.raw.length x.2.rc) (rg_cell (bx_range hX18) (j := 32) rfl (by kernel_rfl)) <| gz1 (.int .i64 x.1.raw.length) <|
       gzw (.int .i64 ((bt - x.1.raw.length : Nat) : Int)) (sub_nn rfl bt x.1.raw.length (by have := HC.out; have := HQ.out; omega) (by have := HC.out; have := HN.out; omega)) <| gz1 (.int .i64 ((bt - x.1.raw.length : Nat) : Int)) <| wn ?_
      simp only [pu]
      go_upto_region 14 with fail
      refine wl <| gzv (.int .i64 (i + 1 : Nat)) (add_one rfl i (by have := HN.out; omega) (by kernel_rfl) _) <| gz1 (.int .i64 (i + 1 : Nat)) <| wn ?_
      simp only [pu]
      go_wp2_with fail
      go_roundg (n - (i + 1))
      case measure => have := HGK.out; omega
      case rel => exact ⟨i + 1, cn - 1, bt - x.1.raw.length, _, rfl, rfl, rfl, rfl, by omega, by omega, Lib.hid ⟨by have := HC.out; omega, by have := HC.out; have := HQ.out; omega⟩, HR3⟩
   ·skip
    have hf : fitJ O s mt mb i = false := by rw [hfr, decide_eq_false k1, Bool.false_and]
    clear hfr hft
    go_upto_region 7 with fail
    refine wl <| gz2 (.int .i64 cn) (.int .i64 mt) <| gzb (leq_n rfl (cn) (mt) (decide_eq_false (k1))) <| gz6 (.bool false) undef undef undef undef (.bool false) <| wn ?_
    simp only [pu]
    clear k1
    by_cases hp : pri ≤ x.1.pri
    ·skip
     go_upto_region 9 with fail
     refine wl <| gz1 (.pointer (some ⟨g17, 36, none⟩)) <| gzl rfl ⟨g17, 36, none⟩ (.int .u64 x.1.pri) (rg_cell (bx_range hX17) (j := 36) rfl (by kernel_rfl)) <| gz1 (.int .u64 pri) <| gzb (geq_w rfl x.1.pri pri (decide_eq_true hp)) <|
      wpList_nil ?_
     simp only [pu]
     clear hX17
     have hst := stp_iff.2 (.inr (by rw [HX.out]; exact hp) : fitJ O s mt mb i = true ∨ pri ≤ (O.getD i zEn).pri)
     obtain ⟨-, hvb, hvk⟩ := vic_at (O := O) (pri := pri) (sz := s) (mt := mt) (mb := mb) (k := i) (by rw [HN.out.2.1]; exact HI.out) HR.out.1 (by rw [HN.out.2.1]; exact fun _ => hst)
     rw [hf] at hvb hvk
     have HVB := Lib.hid hvb
     have HVK := Lib.hid hvk
     clear hvb hvk hf
     clear hst hp
     have HE : Hid (KyO w V2 (.slice none 0 0) (vicK O pri s mt mb)) := Lib.hid (by rw [HVK.out]; exact KyO.nil (HB4.out.trans (HBV.out.mono HB4.out.size)))
     go_upto_region 10 with fail
     refine wl <| gz2 (.slice none 0 0) (.bool false) <| wn ?_
     simp only [pu]
     go_wp2_with fail
     go_ret2
     exact ⟨_, congrArg (fun q => Ending.returned (Value.tuple #[.slice none 0 0, Value.bool q])) HVB.out.symm, HE.out⟩
    ·skip
     go_upto_region 9 with fail
     refine wl <| gz1 (.pointer (some ⟨g17, 36, none⟩)) <| gzl rfl ⟨g17, 36, none⟩ (.int .u64 x.1.pri) (rg_cell (bx_range hX17) (j := 36) rfl (by kernel_rfl)) <| gz1 (.int .u64 pri) <| gzb (geq_w rfl x.1.pri pri (decide_eq_false hp)) <|
      wpList_nil ?_
     simp only [pu]
     have HST : Hid (stpJ O pri s mt mb i = false) := Lib.hid (stp_no.2 ⟨hf, by rw [HX.out]; omega⟩)
     clear hf hp
     obtain ⟨v2, V3, hap, hO3, hb3, hX18⟩ := grow_kx (HR.out.2.1.below HBW.out) HBV.out.size x.1.k (by rw [List.length_map, List.length_take]; have := HN.out; omega) hX17 (by decide)
     rw [show (O.take i).map En.k ++ [x.1.k] = (O.take (i + 1)).map En.k by rw [take_k O i (by rw [HN.out.2.1]; exact hlt), HX.out]] at hO3
     have hq := raw_step O i (by rw [HN.out.2.1]; exact hlt)
     have hq2 := raw_take O (i + 1)
     rw [HX.out] at hq
     rw [HN.out.2.2.2.2] at hq2
     have HQ : Hid (rawL (O.take (i + 1)) = rawL (O.take i) + x.1.raw.length ∧ rawL (O.take (i + 1)) ≤ R) := Lib.hid ⟨hq, hq2⟩
     have HR3 : Hid ((∀ j, j < i + 1 → stpJ O pri s mt mb j = false) ∧ Rowky V3 V1.heap.size v2 ((O.take (i + 1)).map En.k) ∧ Below V1.heap.size V1 V3) := Lib.hid ⟨fun j hj => by
      rcases Nat.lt_or_ge j i with h3 | h3
      ·exact HR.out.1 j h3
      ·obtain rfl : j = i := by omega
       exact HST.out, hO3, HBV.out.trans hb3⟩
     clear hO3 hb3 hq hq2
     go_upto_region 11 with fail
     refine wl <| gz2 (u14) (.pointer (some ⟨g17, 0, none⟩)) <| gzl rfl ⟨g17, 0, none⟩ (.agg (kcA x.1.k)) (load_ky (bx_range hX17)) ?_
     simp only [pu]
     refine gw_build (by kernel_rfl) (some 48) rfl 39 1 #[(0, .tmp 47)] rfl #[(0, .agg (kcA x.1.k))] (by kernel_rfl) (.slice (some ⟨V2.heap.size, 0, none⟩) 1 1) _ (build_ky x.1.k V2) ?_
     simp only [pu]
     refine append_step rfl (some 49) rfl 39 rfl (.tmp 45) (.tmp 48) 39 rfl u14 (.slice (some ⟨V2.heap.size, 0, none⟩) 1 1) v2 V3 (by kernel_rfl) (by kernel_rfl) hap ?_
     simp only [pu]
     refine gz1 (v2) <| wn ?_
     simp only [pu]
     clear hap
     go_upto_region 12 with fail
     refine wl <| gz1 (.int .i64 cn) <| gzw (.int .i64 ((cn - 1 : Nat) : Int)) (sub_nn rfl cn 1 (by have := HC.out; have := HGK.out; omega) (by have := HC.out; have := HN.out; omega)) <| gz1 (.int .i64 ((cn - 1 : Nat) : Int)) <| wn ?_
     simp only [pu]
     go_upto_region 13 with fail
     refine wl <| gz2 (.int .i64 bt) (.pointer (some ⟨g17, 32, none⟩)) <| gzl rfl ⟨g17, 32, none⟩ (.slice x.2.ra x.1.raw.length x.2.rc) (rg_cell (bx_range hX18) (j := 32) rfl (by kernel_rfl)) <| gz1 (.int .i64 x.1.raw.length) <|
      gzw (.int .i64 ((bt - x.1.raw.length : Nat) : Int)) (sub_nn rfl bt x.1.raw.length (by have := HC.out; have := HQ.out; omega) (by have := HC.out; have := HN.out; omega)) <| gz1 (.int .i64 ((bt - x.1.raw.length : Nat) : Int)) <| wn ?_
     simp only [pu]
     go_upto_region 14 with fail
     refine wl <| gzv (.int .i64 (i + 1 : Nat)) (add_one rfl i (by have := HN.out; omega) (by kernel_rfl) _) <| gz1 (.int .i64 (i + 1 : Nat)) <| wn ?_
     simp only [pu]
     go_wp2_with fail
     go_roundg (n - (i + 1))
     case measure => have := HGK.out; omega
     case rel => exact ⟨i + 1, cn - 1, bt - x.1.raw.length, _, rfl, rfl, rfl, rfl, by omega, by omega, Lib.hid ⟨by have := HC.out; omega, by have := HC.out; have := HQ.out; omega⟩, HR3⟩
  ·skip
   obtain rfl : i = n := by omega
   go_upto_region 5 with fail
   refine wl <| gzb (lss_n rfl (i) (i) dF) <| wn ?_
   simp only [pu]
   have hfr := fit_ref (O := O) (sz := s) (mt := mt) (mb := mb) (i := i) (cn := cn) (bt := bt) HN.out.2.1 HI.out HC.out.1 (by rw [HN.out.2.2.2.2]; exact HC.out.2) HS.out.2.1
   have hft := r_fits wr bt s mb (by have := HC.out; have := HN.out; omega) HS.out.2.1 HS.out.2.2
   by_cases k1 : (cn : Int) ≤ mt
   ·skip
    rw [decide_eq_true k1, Bool.true_and] at hfr
    rw [← hfr] at hft
    clear hfr
    cases hf : fitJ O s mt mb i with
    | true =>
     rw [hf] at hft
     go_upto_region 15 with fail
     refine wl <| gz2 (.int .i64 cn) (.int .i64 mt) <| gzb (leq_n rfl (cn) (mt) (decide_eq_true (k1))) <| gz4 (.bool true) (.int .i64 bt) (.int .i64 s) (.int .i64 mb) <| gzc (.bool true) (fun w' => wr = w') (hft) (fun V9 hV9 => ?_)
     subst hV9
     simp only [pu]
     refine gz1 (.bool true) <| wn ?_
     simp only [pu]
     clear hft k1
     obtain ⟨-, hvb, hvk⟩ := vic_at (O := O) (pri := pri) (sz := s) (mt := mt) (mb := mb) (k := i) (by rw [HN.out.2.1]; exact HI.out) HR.out.1 (by rw [HN.out.2.1]; exact fun h => absurd h (Nat.lt_irrefl _))
     rw [hf] at hvb hvk
     have HVB := Lib.hid hvb
     have HVK := Lib.hid hvk
     clear hvb hvk hf
     have HE : Hid (KyO w wr u14 (vicK O pri s mt mb)) := Lib.hid (by rw [HVK.out]; exact KyO.own (HR.out.2.1) (HB4.out.trans (HR.out.2.2.mono HB4.out.size)))
     go_upto_region 16 with fail
     refine wl <| gz3 (u14) (u14) (.bool true) <| wn ?_
     simp only [pu]
     go_wp2_with fail
     go_ret2
     exact ⟨u14, congrArg (fun q => Ending.returned (Value.tuple #[u14, Value.bool q])) HVB.out.symm, HE.out⟩
    | false =>
     rw [hf] at hft
     go_upto_region 15 with fail
     refine wl <| gz2 (.int .i64 cn) (.int .i64 mt) <| gzb (leq_n rfl (cn) (mt) (decide_eq_true (k1))) <| gz4 (.bool true) (.int .i64 bt) (.int .i64 s) (.int .i64 mb) <| gzc (.bool false) (fun w' => wr = w') (hft) (fun V9 hV9 => ?_)
     subst hV9
     simp only [pu]
     refine gz1 (.bool false) <| wn ?_
     simp only [pu]
     clear hft k1
     obtain ⟨-, hvb, hvk⟩ := vic_at (O := O) (pri := pri) (sz := s) (mt := mt) (mb := mb) (k := i) (by rw [HN.out.2.1]; exact HI.out) HR.out.1 (by rw [HN.out.2.1]; exact fun h => absurd h (Nat.lt_irrefl _))
     rw [hf] at hvb hvk
     have HVB := Lib.hid hvb
     have HVK := Lib.hid hvk
     clear hvb hvk hf
     have HE : Hid (KyO w wr (.slice none 0 0) (vicK O pri s mt mb)) := Lib.hid (by rw [HVK.out]; exact KyO.nil (HB4.out.trans (HR.out.2.2.mono HB4.out.size)))
     go_upto_region 17 with fail
     refine wl <| gz2 (.slice none 0 0) (.bool false) <| wn ?_
     simp only [pu]
     go_wp2_with fail
     go_ret2
     exact ⟨_, congrArg (fun q => Ending.returned (Value.tuple #[.slice none 0 0, Value.bool q])) HVB.out.symm, HE.out⟩
   ·skip
    have hf : fitJ O s mt mb i = false := by rw [hfr, decide_eq_false k1, Bool.false_and]
    clear hfr hft
    go_upto_region 15 with fail
    refine wl <| gz2 (.int .i64 cn) (.int .i64 mt) <| gzb (leq_n rfl (cn) (mt) (decide_eq_false (k1))) <| gz6 (.bool false) undef undef undef undef (.bool false) <| wn ?_
    simp only [pu]
    clear k1
    obtain ⟨-, hvb, hvk⟩ := vic_at (O := O) (pri := pri) (sz := s) (mt := mt) (mb := mb) (k := i) (by rw [HN.out.2.1]; exact HI.out) HR.out.1 (by rw [HN.out.2.1]; exact fun h => absurd h (Nat.lt_irrefl _))
    rw [hf] at hvb hvk
    have HVB := Lib.hid hvb
    have HVK := Lib.hid hvk
    clear hvb hvk hf
    have HE : Hid (KyO w wr (.slice none 0 0) (vicK O pri s mt mb)) := Lib.hid (by rw [HVK.out]; exact KyO.nil (HB4.out.trans (HR.out.2.2.mono HB4.out.size)))
    go_upto_region 17 with fail
    refine wl <| gz2 (.slice none 0 0) (.bool false) <| wn ?_
    simp only [pu]
    go_wp2_with fail
    go_ret2
    exact ⟨_, congrArg (fun q => Ending.returned (Value.tuple #[.slice none 0 0, Value.bool q])) HVB.out.symm, HE.out⟩
end Go.Proofs.Ytgkckblcekbafaa
