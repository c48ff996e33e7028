/-
  The cost of a transaction: contracts. The reference's done: contract. The reference's fault: contract.
-/
import Derived.Test.YtglglhcnofbagaaJ19
namespace Go.Proofs.Ytglglhcnofbagaa.Lg
attribute [local irreducible] wpList wpQuiet
set_option maxRecDepth 100000
open Mo (usedV prioV mulB mulV)
open Go.RowKit
set_option linter.unusedSimpArgs false
set_option linter.unusedVariables false

theorem amts_len (t : Txd) : (amts t).length = t.tr.length + 1 := by simp [amts]
def amtJ (t : Txd) (j : Nat) : List Int := t.fee :: (t.tr.take j).map (·.2)
theorem amtJ_succ {t : Txd} {j : Nat} (h : j < t.tr.length) : amtJ t (j + 1) = amtJ t j ++ [(tfa t.tr j).2] := by
 unfold amtJ
 rw [List.take_succ_eq_append_getElem h, List.map_append, tfa_get h]
 rfl
theorem amtJ_len (t : Txd) (j : Nat) : (amtJ t j).length ≤ t.tr.length + 1 := by
 unfold amtJ
 rw [List.length_cons, List.length_map, List.length_take]
 omega
theorem amtJ_all (t : Txd) : amtJ t t.tr.length = amts t := by unfold amtJ amts; rw [List.take_length]
theorem amts_w {t : Txd} (hf : W64 t.fee) (ha : ∀ x, x ∈ t.tr → W64 x.2) : ∀ k, k < (amts t).length → W64 ((amts t).getD k 0) := fun k hk => by
 have hm : ∀ x, x ∈ amts t → W64 x := fun x hx => by
  rcases List.mem_cons.1 hx with h | h
  ·rw [h]; exact hf
  ·obtain ⟨y, hy, rfl⟩ := List.mem_map.1 h
   exact ha y hy
 rw [List.getD_eq_getElem?_getD, List.getElem?_eq_getElem hk]
 exact hm _ (List.getElem_mem hk)
set_option maxRecDepth 100000 in
set_option maxHeartbeats 8000000 in
theorem ref_cost (t : Txd) (a : Option Addr) (k : Nat) (w : World) (hR : Cs w a (tfc t.tr)) (hn : t.tr.length ≤ 100000) (hf : W64 t.fee) (ha : ∀ x, x ∈ t.tr → W64 x.2) :
  Calls Try.prog 20 #[.agg (txA t a k)] w fun e w' => e = .returned (.tuple #[.int .u64 (cosV t), .bool (cosB t)]) ∧ Below w.heap.size w w' := by
 have hb0 : Below w.heap.size w (w.alloc (.cells (txA t a k) 32)) := (Below.refl _ w).alloc (Nat.le_refl _) _
 have hX0 : Bx (w.alloc (.cells (txA t a k) 32)) w.heap.size (txA t a k) 32 := heap_alloc_last w _
 have HA := Lib.hid (hR.below hb0)
 have HSM := Lib.hid (fun (al : Option Addr) (cl : Nat) (V : World) (h : Cs V al (u64s (amts t))) => ref_sum al cl (amts t) V (by rw [amts_len]; omega) (fun q hq => by
  obtain ⟨b, off, e, -, h1⟩ := h q (.int .u64 ((amts t).getD q 0)) (by
   unfold u64s
   rw [List.getElem?_map, List.getElem?_eq_getElem hq, List.getD_eq_getElem?_getD, List.getElem?_eq_getElem hq]
   rfl)
  exact ⟨b, off, e, h1⟩) (amts_w hf ha))
 have HST := Lib.hid (fun j (h : j < t.tr.length) => amtJ_succ h)
 have HJL := Lib.hid (amtJ_len t)
 have HJA := Lib.hid (amtJ_all t)
 have HJ0 : Hid (amtJ t 0 = [t.fee]) := Lib.hid (by unfold amtJ; rw [List.take_zero, List.map_nil])
 have HTV : Hid (sumV (amts t) = cosV t ∧ sumB (amts t) = cosB t) := Lib.hid ⟨rfl, rfl⟩
 generalize amtJ t = J at *
 generalize amts t = AM at *
 generalize cosV t = tv at *
 generalize cosB t = tb at *
 obtain ⟨snd, sq, gas, fee, memo, A⟩ := t
 simp only at *
 obtain ⟨n, hnn⟩ : ∃ n, A.length = n := ⟨_, rfl⟩
 have HNL : Hid (n ≤ 100000) := Lib.hid (by omega)
 simp only [txA, hnn] at hb0 hX0 HA HST HJL HJA ⊢
 have HN := Lib.hid hnn
 clear hR hn hnn hf ha
 go_enter Try.func20, Try.ntmps20
 go_upto_region 1 with fail
 change Code.wp _ _ _ _ (w.alloc (.cells #[.string snd, .int .u64 sq, .int .u64 gas, .int .u64 fee, .string memo, .slice a n k] 32))
 generalize w.alloc (.cells #[.string snd, .int .u64 sq, .int .u64 gas, .int .u64 fee, .string memo, .slice a n k] 32) = W at *
 obtain ⟨g0, hg0⟩ : ∃ g0, w.heap.size = g0 := ⟨_, rfl⟩
 have HB0 := Lib.hid hb0
 rw [hg0] at hX0
 simp only [hg0]
 have HX := Lib.hid hX0
 clear hb0 hg0 hX0
 have hbu := build_u fee W
 have hou := own_u fee W
 refine wl <| gz1 (.pointer (some ⟨g0, 3, none⟩)) <| gzl rfl ⟨g0, 3, none⟩ (.int .u64 fee) (HX.out.load (i := 3) rfl (by kernel_rfl)) ?_
 simp only [pu]
 refine gw_build (by kernel_rfl) (some 9) rfl 84 1 #[(0, .tmp 8)] rfl #[(0, .int .u64 fee)] (by kernel_rfl) (.slice (some ⟨W.heap.size, 0, none⟩) 1 1) _ hbu ?_
 simp only [pu]
 refine gz1 (.slice (some ⟨W.heap.size, 0, none⟩) 1 1) <| wn ?_
 simp only [pu]
 have hb1 : Below W.heap.size W (W.alloc (.cells #[.int .u64 fee] 22)) := (Below.refl _ W).alloc (Nat.le_refl _) _
 clear hbu
 obtain ⟨v1, hv1⟩ : ∃ v1, Value.slice (some ⟨W.heap.size, 0, none⟩) 1 1 = v1 := ⟨_, rfl⟩
 rw [hv1] at hou ⊢
 generalize W.alloc (.cells #[.int .u64 fee] 22) = W1 at *
 have HR1 : Hid (RowU W1 W.heap.size v1 (J 0)) := Lib.hid (by rw [HJ0.out]; exact hou)
 have HB1 := Lib.hid hb1
 have HX1 := Lib.hid (HX.out.below HX.out.lt hb1)
 clear hv1 hou hb1
 go_upto_region 2 with fail
 refine wl <| gz1 (.pointer (some ⟨g0, 5, none⟩)) <| gzl rfl ⟨g0, 5, none⟩ (.slice a n k) (HX1.out.load (i := 5) rfl (by kernel_rfl)) <| gz2 (.int .i64 n) (.int .i64 0) <| wn ?_
 simp only [pu]
 go_wp2_with fail
 go_loopg [4, 13] n (fun gg s4 s13 wx => ∃ (j : Nat) (v4 : Value), s4 = v4 ∧ s13 = .int .i64 j ∧ j ≤ n ∧ Hid (RowU wx W.heap.size v4 (J j)) ∧ Hid (Below W.heap.size W wx) ∧ n - j = gg)
 case atStart => exact ⟨0, v1, rfl, rfl, by omega, HR1, HB1, by omega⟩
 case round =>
  obtain ⟨j, v4, rfl, rfl, hj, HRU, HB, hg⟩ := hrel
  have hn9 := HNL.out
  by_cases hlt : j < n
  ·skip
   obtain ⟨b, off, rfl, -, hrx⟩ := tf_range (HA.out.below HB.out) (k := j) (by rw [HN.out]; exact hlt)
   have HLD := Lib.hid (load_tf hrx)
   have HBS := Lib.hid (HST.out j hlt)
   generalize tfa A j = y at *
   have HG := Lib.hid hg
   obtain ⟨V2, hst, hb2, hbx⟩ := new_tf wr y
   obtain ⟨v3, V3, hap, hr3, hb3⟩ := grow_u (own_below HRU.out hb2) (by have := HB.out.size; have := hb2.size; omega) y.2 (by have := HJL.out j; omega)
   have HR3 : Hid (RowU V3 W.heap.size v3 (J (j + 1))) := Lib.hid (by rw [HBS.out]; exact hr3)
   have HB3 := Lib.hid ((HB.out.trans (hb2.mono HB.out.size)).trans hb3)
   have hbu := build_u y.2 V2
   clear hrx hg hb2 hr3 hb3 HBS
   go_upto_region 3 with fail
   refine wl <| gzb (lss_n rfl (j) (n) dT) <| wn ?_
   simp only [pu]
   go_upto_region 4 with fail
   refine wl <| gzv (.pointer (some ⟨b, off + j * 2, none⟩)) (idx_tf b off n k j hlt _ _ _ rfl (by kernel_rfl) (by kernel_rfl)) <| gzl rfl ⟨b, off + j * 2, none⟩ (.agg (tfA y)) (HLD.out) ?_
   simp only [pu]
   refine run_to rfl (some 6) rfl (.pointer (some ⟨wr.heap.size, 0, none⟩)) (wr.alloc (.cells (tfA zTf) 35)) (by kernel_rfl) ?_
   simp only [pu]
   refine gzs rfl (hst) <| wn ?_
   obtain ⟨g4, hg4⟩ : ∃ g4, wr.heap.size = g4 := ⟨_, rfl⟩
   rw [hg4] at hbx ⊢
   obtain ⟨g5, hg5⟩ : ∃ g5, V2.heap.size = g5 := ⟨_, rfl⟩
   rw [hg5] at hap hbu
   clear hst hg4 hg5 HLD
   go_upto_region 5 with fail
   refine wl <| gz2 (u4) (.pointer (some ⟨g4, 1, none⟩)) <| gzl rfl ⟨g4, 1, none⟩ (.int .u64 y.2) (hbx.load (i := 1) rfl (by kernel_rfl)) ?_
   simp only [pu]
   refine gw_build (by kernel_rfl) (some 20) rfl 84 1 #[(0, .tmp 19)] rfl #[(0, .int .u64 y.2)] (by kernel_rfl) (.slice (some ⟨g5, 0, none⟩) 1 1) _ hbu ?_
   simp only [pu]
   refine append_step rfl (some 21) rfl 84 rfl (.tmp 17) (.tmp 20) 84 rfl (u4) (.slice (some ⟨g5, 0, none⟩) 1 1) (v3) V3 (by kernel_rfl) (by kernel_rfl) hap ?_
   simp only [pu]
   refine gz1 (v3) <| wn ?_
   simp only [pu]
   clear hap hbu hbx
   go_upto_region 6 with fail
   refine wl <| gzw (.int .i64 (j + 1 : Nat)) (add_nat rfl j 1 (by omega)) <| gz1 (.int .i64 (j + 1 : Nat)) <| wn ?_
   simp only [pu]
   go_wp2_with fail
   go_roundg (n - (j + 1))
   case measure => have := HG.out; omega
   case rel => exact ⟨j + 1, v3, rfl, rfl, hlt, HR3, HB3, rfl⟩
  ·skip
   obtain rfl : n = j := by omega
   obtain ⟨al, cl, rfl, hcs, -⟩ := own_cs HRU.out
   rw [HJA.out] at hcs ⊢
   have CS := HSM.out al cl wr hcs
   rw [HTV.out.1, HTV.out.2] at CS
   generalize AM.length = m at *
   have HB9 := Lib.hid (HB0.out.trans (HB.out.mono HB0.out.size))
   clear hg HRU HSM HTV hcs HB
   go_upto_region 3 with fail
   refine wl <| gzb (lss_n rfl (n) (n) dF) <| wn ?_
   simp only [pu]
   go_upto_region 7 with fail
   refine wl <| gz1 (.slice al m cl) <| gzc (.tuple #[.int .u64 tv, .bool tb]) (fun w' => wr = w') (CS) (fun V9 hV9 => ?_)
   subst hV9
   simp only [pu]
   refine gz4 (.int .u64 tv) (.bool tb) (.int .u64 tv) (.bool tb) <| wn ?_
   simp only [pu]
   clear CS
   go_wp2_with fail
   go_ret2
   exact ⟨rfl, HB9.out⟩
set_option maxRecDepth 100000 in
set_option maxHeartbeats 8000000 in
theorem q_cost (t : Txd) (a : Option Addr) (k : Nat) (w : World) (hR : Cs w a (tfc t.tr)) (hn : t.tr.length ≤ 100000) (hf : W64 t.fee) (ha : ∀ x, x ∈ t.tr → W64 x.2) :
  Calls Try.prog 57 #[.agg (txA t a k)] w fun e w' => e = .returned (.tuple #[.int .u64 (cosV t), .bool (cosB t)]) ∧ Below w.heap.size w w' := by
 have hb0 : Below w.heap.size w (w.alloc (.cells (txA t a k) 32)) := (Below.refl _ w).alloc (Nat.le_refl _) _
 have hX0 : Bx (w.alloc (.cells (txA t a k) 32)) w.heap.size (txA t a k) 32 := heap_alloc_last w _
 have HA := Lib.hid (hR.below hb0)
 have HSM := Lib.hid (fun (al : Option Addr) (cl : Nat) (V : World) (h : Cs V al (u64s (amts t))) => money_sum al cl (amts t) V (by rw [amts_len]; omega) (fun q hq => by
  obtain ⟨b, off, e, -, h1⟩ := h q (.int .u64 ((amts t).getD q 0)) (by
   unfold u64s
   rw [List.getElem?_map, List.getElem?_eq_getElem hq, List.getD_eq_getElem?_getD, List.getElem?_eq_getElem hq]
   rfl)
  exact ⟨b, off, e, h1⟩) (amts_w hf ha))
 have HST := Lib.hid (fun j (h : j < t.tr.length) => amtJ_succ h)
 have HJL := Lib.hid (amtJ_len t)
 have HJA := Lib.hid (amtJ_all t)
 have HJ0 : Hid (amtJ t 0 = [t.fee]) := Lib.hid (by unfold amtJ; rw [List.take_zero, List.map_nil])
 have HTV : Hid (sumV (amts t) = cosV t ∧ sumB (amts t) = cosB t) := Lib.hid ⟨rfl, rfl⟩
 generalize amtJ t = J at *
 generalize amts t = AM at *
 generalize cosV t = tv at *
 generalize cosB t = tb at *
 obtain ⟨snd, sq, gas, fee, memo, A⟩ := t
 simp only at *
 obtain ⟨n, hnn⟩ : ∃ n, A.length = n := ⟨_, rfl⟩
 have HNL : Hid (n ≤ 100000) := Lib.hid (by omega)
 simp only [txA, hnn] at hb0 hX0 HA HST HJL HJA ⊢
 have HN := Lib.hid hnn
 clear hR hn hnn hf ha
 go_enter Try.func57, Try.ntmps57
 go_upto_region 1 with fail
 change Code.wp _ _ _ _ (w.alloc (.cells #[.string snd, .int .u64 sq, .int .u64 gas, .int .u64 fee, .string memo, .slice a n k] 32))
 generalize w.alloc (.cells #[.string snd, .int .u64 sq, .int .u64 gas, .int .u64 fee, .string memo, .slice a n k] 32) = W at *
 obtain ⟨g0, hg0⟩ : ∃ g0, w.heap.size = g0 := ⟨_, rfl⟩
 have HB0 := Lib.hid hb0
 rw [hg0] at hX0
 simp only [hg0]
 have HX := Lib.hid hX0
 clear hb0 hg0 hX0
 have hbu := build_u fee W
 have hou := own_u fee W
 refine wl <| gz1 (.pointer (some ⟨g0, 3, none⟩)) <| gzl rfl ⟨g0, 3, none⟩ (.int .u64 fee) (HX.out.load (i := 3) rfl (by kernel_rfl)) ?_
 simp only [pu]
 refine gw_build (by kernel_rfl) (some 9) rfl 84 1 #[(0, .tmp 8)] rfl #[(0, .int .u64 fee)] (by kernel_rfl) (.slice (some ⟨W.heap.size, 0, none⟩) 1 1) _ hbu ?_
 simp only [pu]
 refine gz1 (.slice (some ⟨W.heap.size, 0, none⟩) 1 1) <| wn ?_
 simp only [pu]
 have hb1 : Below W.heap.size W (W.alloc (.cells #[.int .u64 fee] 22)) := (Below.refl _ W).alloc (Nat.le_refl _) _
 clear hbu
 obtain ⟨v1, hv1⟩ : ∃ v1, Value.slice (some ⟨W.heap.size, 0, none⟩) 1 1 = v1 := ⟨_, rfl⟩
 rw [hv1] at hou ⊢
 generalize W.alloc (.cells #[.int .u64 fee] 22) = W1 at *
 have HR1 : Hid (RowU W1 W.heap.size v1 (J 0)) := Lib.hid (by rw [HJ0.out]; exact hou)
 have HB1 := Lib.hid hb1
 have HX1 := Lib.hid (HX.out.below HX.out.lt hb1)
 clear hv1 hou hb1
 go_upto_region 2 with fail
 refine wl <| gz1 (.pointer (some ⟨g0, 5, none⟩)) <| gzl rfl ⟨g0, 5, none⟩ (.slice a n k) (HX1.out.load (i := 5) rfl (by kernel_rfl)) <| gz2 (.int .i64 n) (.int .i64 0) <| wn ?_
 simp only [pu]
 go_wp2_with fail
 go_loopg [4, 13] n (fun gg s4 s13 wx => ∃ (j : Nat) (v4 : Value), s4 = v4 ∧ s13 = .int .i64 j ∧ j ≤ n ∧ Hid (RowU wx W.heap.size v4 (J j)) ∧ Hid (Below W.heap.size W wx) ∧ n - j = gg)
 case atStart => exact ⟨0, v1, rfl, rfl, by omega, HR1, HB1, by omega⟩
 case round =>
  obtain ⟨j, v4, rfl, rfl, hj, HRU, HB, hg⟩ := hrel
  have hn9 := HNL.out
  by_cases hlt : j < n
  ·skip
   obtain ⟨b, off, rfl, -, hrx⟩ := tf_range (HA.out.below HB.out) (k := j) (by rw [HN.out]; exact hlt)
   have HLD := Lib.hid (load_tf hrx)
   have HBS := Lib.hid (HST.out j hlt)
   generalize tfa A j = y at *
   have HG := Lib.hid hg
   obtain ⟨V2, hst, hb2, hbx⟩ := new_tf wr y
   obtain ⟨v3, V3, hap, hr3, hb3⟩ := grow_u (own_below HRU.out hb2) (by have := HB.out.size; have := hb2.size; omega) y.2 (by have := HJL.out j; omega)
   have HR3 : Hid (RowU V3 W.heap.size v3 (J (j + 1))) := Lib.hid (by rw [HBS.out]; exact hr3)
   have HB3 := Lib.hid ((HB.out.trans (hb2.mono HB.out.size)).trans hb3)
   have hbu := build_u y.2 V2
   clear hrx hg hb2 hr3 hb3 HBS
   go_upto_region 3 with fail
   refine wl <| gzb (lss_n rfl (j) (n) dT) <| wn ?_
   simp only [pu]
   go_upto_region 4 with fail
   refine wl <| gzv (.pointer (some ⟨b, off + j * 2, none⟩)) (idx_tf b off n k j hlt _ _ _ rfl (by kernel_rfl) (by kernel_rfl)) <| gzl rfl ⟨b, off + j * 2, none⟩ (.agg (tfA y)) (HLD.out) ?_
   simp only [pu]
   refine run_to rfl (some 6) rfl (.pointer (some ⟨wr.heap.size, 0, none⟩)) (wr.alloc (.cells (tfA zTf) 35)) (by kernel_rfl) ?_
   simp only [pu]
   refine gzs rfl (hst) <| wn ?_
   obtain ⟨g4, hg4⟩ : ∃ g4, wr.heap.size = g4 := ⟨_, rfl⟩
   rw [hg4] at hbx ⊢
   obtain ⟨g5, hg5⟩ : ∃ g5, V2.heap.size = g5 := ⟨_, rfl⟩
   rw [hg5] at hap hbu
   clear hst hg4 hg5 HLD
   go_upto_region 5 with fail
   refine wl <| gz2 (u4) (.pointer (some ⟨g4, 1, none⟩)) <| gzl rfl ⟨g4, 1, none⟩ (.int .u64 y.2) (hbx.load (i := 1) rfl (by kernel_rfl)) ?_
   simp only [pu]
   refine gw_build (by kernel_rfl) (some 20) rfl 84 1 #[(0, .tmp 19)] rfl #[(0, .int .u64 y.2)] (by kernel_rfl) (.slice (some ⟨g5, 0, none⟩) 1 1) _ hbu ?_
   simp only [pu]
   refine append_step rfl (some 21) rfl 84 rfl (.tmp 17) (.tmp 20) 84 rfl (u4) (.slice (some ⟨g5, 0, none⟩) 1 1) (v3) V3 (by kernel_rfl) (by kernel_rfl) hap ?_
   simp only [pu]
   refine gz1 (v3) <| wn ?_
   simp only [pu]
   clear hap hbu hbx
   go_upto_region 6 with fail
   refine wl <| gzw (.int .i64 (j + 1 : Nat)) (add_nat rfl j 1 (by omega)) <| gz1 (.int .i64 (j + 1 : Nat)) <| wn ?_
   simp only [pu]
   go_wp2_with fail
   go_roundg (n - (j + 1))
   case measure => have := HG.out; omega
   case rel => exact ⟨j + 1, v3, rfl, rfl, hlt, HR3, HB3, rfl⟩
  ·skip
   obtain rfl : n = j := by omega
   obtain ⟨al, cl, rfl, hcs, -⟩ := own_cs HRU.out
   rw [HJA.out] at hcs ⊢
   have CS := HSM.out al cl wr hcs
   rw [HTV.out.1, HTV.out.2] at CS
   generalize AM.length = m at *
   have HB9 := Lib.hid (HB0.out.trans (HB.out.mono HB0.out.size))
   clear hg HRU HSM HTV hcs HB
   go_upto_region 3 with fail
   refine wl <| gzb (lss_n rfl (n) (n) dF) <| wn ?_
   simp only [pu]
   go_upto_region 7 with fail
   refine wl <| gz1 (.slice al m cl) <| gzc (.tuple #[.int .u64 tv, .bool tb]) (fun w' => wr = w') (CS) (fun V9 hV9 => ?_)
   subst hV9
   simp only [pu]
   refine gz4 (.int .u64 tv) (.bool tb) (.int .u64 tv) (.bool tb) <| wn ?_
   simp only [pu]
   clear CS
   go_wp2_with fail
   go_ret2
   exact ⟨rfl, HB9.out⟩
end Go.Proofs.Ytglglhcnofbagaa.Lg
namespace Go.Proofs.Ytglglhcnofbagaa.Lg
attribute [local irreducible] wpList wpQuiet
set_option maxRecDepth 100000
open Mo (usedV prioV mulB mulV)
open Go.RowKit
set_option linter.unusedSimpArgs false
set_option linter.unusedVariables false

section
variable {ρ : Operand → Value} {o : Oper} {x y : Operand}
theorem add_ub (ho : o.op = .binOp .add 22 x y 22) (a b : Int) (h : W64 (a + b)) (hx : ρ x = .int .u64 a) (hy : ρ y = .int .u64 b) (w : World) : (execOp ρ o).run Try.prog w = .ok (.value (.int .u64 (a + b))) w := by
 have hw : IntKind.u64.wrap (a + b) = a + b := by obtain ⟨h0, h1⟩ := h; rw [IntKind.wrap_u64]; omega
 unfold execOp
 simp only [ho, hx, hy]
 go_simp
theorem sub_ub (ho : o.op = .binOp .sub 22 x y 22) (a b : Int) (h : W64 (a - b)) (hx : ρ x = .int .u64 a) (hy : ρ y = .int .u64 b) (w : World) : (execOp ρ o).run Try.prog w = .ok (.value (.int .u64 (a - b))) w := by
 have hw : IntKind.u64.wrap (a - b) = a - b := by obtain ⟨h0, h1⟩ := h; rw [IntKind.wrap_u64]; omega
 unfold execOp
 simp only [ho, hx, hy]
 go_simp
end
/-- What is asked of the ledger and the transaction that is carried out. -/
structure DnQ (A : List Ac) (c : Int) (t : Txd) : Prop where
 w : AcW A
 cw : W64 c
 n : A.length ≤ 256
 tt : c + tot (bals A) < 18446744073709551616
 g : (getX A t.snd).2 = true
 q : (getX A t.snd).1.2.2 < 18446744073709551615
 cb : cosB t = true
 cv : cosV t ≤ (getX A t.snd).1.2.1
 f : W64 t.fee
 a : ∀ x, x ∈ t.tr → W64 x.2
 m : t.tr.length ≤ 16
theorem DnQ.c0 {A : List Ac} {c : Int} {t : Txd} (h : DnQ A c t) : 0 ≤ cosV t ∧ t.fee ≤ cosV t ∧ cosV t = tot (amts t) := by
 have h1 := (cos_yes h.cb).1
 have h2 := cos_all t
 have h3 := (amJ_le h.a t.tr.length).1
 have := h.f.1
 exact ⟨by omega, by omega, h1⟩
theorem DnQ.j0 {A : List Ac} {c : Int} {t : Txd} (h : DnQ A c t) : GvJ A t 0 (subA A t) := GvJ.start h.w h.g h.q h.cb h.cv h.c0.1
theorem DnQ.js {A B : List Ac} {c : Int} {t : Txd} (h : DnQ A c t) {j : Nat} (hJ : GvJ A t j B) (hj : j < t.tr.length) : GvJ A t (j + 1) (givA B (tfa t.tr j)) ∧ W64 ((getA B (tfa t.tr j).1).2.1 + (tfa t.tr j).2) :=
 hJ.step hj (by have := h.tt; have := h.cw.1; omega) h.a h.f.1
theorem DnQ.yw {A : List Ac} {c : Int} {t : Txd} (h : DnQ A c t) : W64 ((getX A t.snd).1.2.1 - cosV t) ∧ W64 ((getX A t.snd).1.2.2 + 1) := by
 obtain ⟨h1, h2, h3⟩ := get_name h.g
 have hwi := h.w _ h1
 rw [← h2] at hwi
 obtain ⟨⟨p0, p1⟩, q0, q1⟩ := hwi
 have h4 := h.c0.1
 have h5 := h.cv
 have h6 := h.q
 exact ⟨⟨by omega, by omega⟩, by omega, by omega⟩
theorem DnQ.cf {A : List Ac} {c : Int} {t : Txd} (h : DnQ A c t) : W64 (c + t.fee) := by
 obtain ⟨h1, h2, h3⟩ := get_name h.g
 have h4 := bal_le h.w h1
 rw [← h2] at h4
 have h5 := h.c0
 have := h.cv; have := h.tt; have := h.cw.1; have := h.f.1
 exact ⟨by omega, by omega⟩
theorem done_gvJ {A : List Ac} {c : Int} {t : Txd} (h : DnQ A c t) : ∀ j, j ≤ t.tr.length → GvJ A t j (giveJ A t j)
 | 0, _ => h.j0
 | j + 1, hj => by rw [giveJ_succ hj]; exact (h.js (done_gvJ h j (by omega)) hj).1
theorem done_gv {A : List Ac} {c : Int} {t : Txd} (h : DnQ A c t) : GvJ A t t.tr.length (doneL A t) := done_gvJ h _ (Nat.le_refl _)
theorem fnd_cases (B : List Ac) (s : ByteArray) : (fndL B s < B.length ∧ fndI B s = (fndL B s : Nat) ∧ getA B s = aca B (fndL B s)) ∨ (¬ fndL B s < B.length ∧ fndI B s = -1 ∧ getA B s = (s, 0, 0)) := by
 by_cases h : fndL B s < B.length
 ·exact .inl ⟨h, if_pos h, if_pos h⟩
 ·exact .inr ⟨h, if_neg h, if_neg h⟩
/-- A ledger that is handed back in a row of its own. -/
def LedR (w : World) (B : List Ac) (c : Int) (e : Ending) (w' : World) : Prop := ∃ ad k, e = .returned (.agg (lgA ad B.length k c)) ∧ RowA w' w.heap.size (.slice ad B.length k) B ∧ Below w.heap.size w w'
set_option maxRecDepth 100000 in
set_option maxHeartbeats 8000000 in
theorem ref_done (A : List Ac) (c : Int) (t : Txd) (la ta : Option Addr) (lk tk : Nat) (w : World) (hL : Cs w la (acc A)) (hlk : A.length ≤ lk) (hT : Cs w ta (tfc t.tr)) (hQ : DnQ A c t) :
  Calls Try.prog 21 #[.agg (lgA la A.length lk c), .agg (txA t ta tk), .int .u64 (cosV t)] w (LedR w (doneL A t) (c + t.fee)) := by
 obtain ⟨hb0, hX3, hX4, hX6⟩ := three_boxes w (lgA la A.length lk c) (txA t ta tk) (lgA none 0 0 0) 27 32 27
 have hA := hL.below hb0
 have hT0 := hT.below hb0
 have HQ := Lib.hid hQ
 have HYW := Lib.hid hQ.yw
 have HCF := Lib.hid hQ.cf
 have HNL : Hid (A.length ≤ 256 ∧ t.tr.length ≤ 16) := Lib.hid ⟨hQ.n, hQ.m⟩
 have HJ0 := Lib.hid hQ.j0
 clear hL hT hQ
 go_enter Try.func21, Try.ntmps21
 go_upto_region 1 with fail
 change Code.wp _ _ _ _ (((w.alloc (.cells (lgA la A.length lk c) 27)).alloc (.cells (txA t ta tk) 32)).alloc (.cells (lgA none 0 0 0) 27))
 generalize ((w.alloc (.cells (lgA la A.length lk c) 27)).alloc (.cells (txA t ta tk) 32)).alloc (.cells (lgA none 0 0 0) 27) = W at *
 obtain ⟨g3, hg3⟩ : ∃ g3, w.heap.size = g3 := ⟨_, rfl⟩
 obtain ⟨g4, hg4⟩ : ∃ g4, g3 + 1 = g4 := ⟨_, rfl⟩
 obtain ⟨g6, hg6⟩ : ∃ g6, g4 + 1 = g6 := ⟨_, rfl⟩
 have HB0 := Lib.hid hb0
 rw [show w.heap.size + 2 = g6 by omega] at hX6
 rw [show w.heap.size + 1 = g4 by omega] at hX4
 have HG6 : Hid (w.heap.size ≤ g6) := Lib.hid (by omega)
 have HG6L : Hid (g6 < W.heap.size) := Lib.hid hX6.lt
 rw [hg3] at hX3
 simp only [hg3]
 simp only [hg4]
 simp only [hg6]
 have HX3 := Lib.hid hX3
 have HX4 := Lib.hid hX4
 have HX6 := Lib.hid hX6
 have HA := Lib.hid hA
 have HT := Lib.hid hT0
 have CG := ref_get la lk A c t.snd W hA (by have := HNL.out; omega)
 obtain ⟨y, hy⟩ : ∃ y, (getX A t.snd).1 = y := ⟨_, rfl⟩
 have hS : subA A t = putL A (y.1, y.2.1 - cosV t, y.2.2 + 1) := by rw [← hy]; rfl
 rw [HQ.out.g, hy] at CG
 have HS := Lib.hid hS
 rw [hy] at HYW
 clear hb0 hX3 hX4 hX6 hA hT0 hg3 hg4 hg6 hy hS
 refine wl <| gzl rfl ⟨g3, 0, none⟩ (.agg (lgA la A.length lk c)) (load_lg HX3.out) <| gz1 (.pointer (some ⟨g4, 0, none⟩)) <| gzl rfl ⟨g4, 0, none⟩ (.string t.snd) (HX4.out.load (i := 0) rfl (by kernel_rfl)) <|
  gzc (.tuple #[.agg (acA y), .bool true]) (fun w' => Below W.heap.size W w') CG (fun W1 hW1 => ?_)
 obtain ⟨V2, hst2, hb2, hbx2⟩ := new_ac W1 y
 simp only [pu]
 refine gz3 (.tuple #[.agg (acA y), .bool true]) (.agg (acA y)) (.bool true) ?_
 simp only [pu]
 refine run_to rfl (some 7) rfl (.pointer (some ⟨W1.heap.size, 0, none⟩)) (W1.alloc (.cells (acA zAc) 24)) (by kernel_rfl) ?_
 simp only [pu]
 refine gzs rfl (hst2) <| gz1 (.bool true) <| wn ?_
 simp only [pu]
 have hb3 := hW1.trans (hb2.mono hW1.size)
 obtain ⟨g7, hg7⟩ : ∃ g7, W1.heap.size = g7 := ⟨_, rfl⟩
 have hG7 : W.heap.size ≤ g7 := by rw [← hg7]; exact hW1.size
 rw [hg7] at hbx2 ⊢
 obtain ⟨V3, hst3, hX73, hb4, -⟩ := st_cell (i := 1) (ty := 22) (v := .int .u64 (y.2.1 - cosV t)) (cs' := acA (y.1, y.2.1 - cosV t, y.2.2)) hbx2 hb3 hG7 (by show 1 < 3; decide) rfl (by kernel_rfl) rfl
 obtain ⟨V4, hst4, hX74, hb5, -⟩ := st_cell (i := 2) (ty := 22) (v := .int .u64 (y.2.2 + 1)) (cs' := acA (y.1, y.2.1 - cosV t, y.2.2 + 1)) hX73 hb4 hG7 (by show 2 < 3; decide) rfl (by kernel_rfl) rfl
 clear CG hW1 hst2 hb2 hg7
 go_upto_region 2 with fail
 refine wl <| gz1 (.pointer (some ⟨g7, 1, none⟩)) <| gzl rfl ⟨g7, 1, none⟩ (.int .u64 y.2.1) (hbx2.load (i := 1) rfl (by kernel_rfl)) <| gz1 (.int .u64 (cosV t)) <| gzw (.int .u64 (y.2.1 - cosV t)) (sub_ub rfl y.2.1 (cosV t) HYW.out.1) <|
  gz1 (.pointer (some ⟨g7, 1, none⟩)) <| gzs rfl (hst3) <| wn ?_
 simp only [pu]
 go_upto_region 3 with fail
 refine wl <| gz1 (.pointer (some ⟨g7, 2, none⟩)) <| gzl rfl ⟨g7, 2, none⟩ (.int .u64 y.2.2) (hX73.load (i := 2) rfl (by kernel_rfl)) <| gzw (.int .u64 (y.2.2 + 1)) (add_ub rfl y.2.2 1 HYW.out.2) <| gz1 (.pointer (some ⟨g7, 2, none⟩)) <| gzs rfl (hst4) <|
  wpList_nil ?_
 simp only [pu]
 have CP := ref_put la lk A (y.1, y.2.1 - cosV t, y.2.2 + 1) V4 (HA.out.below hb5) hlk (by have := HNL.out; omega)
 rw [← HS.out] at CP
 have HB5 := Lib.hid hb5
 have HX35 := Lib.hid (HX3.out.below HX3.out.lt hb5)
 clear hst3 hst4 hb3 hb4 hbx2 hX73 hb5
 go_upto_region 4 with fail
 refine wl <| gz1 (.pointer (some ⟨g3, 0, none⟩)) <| gzl rfl ⟨g3, 0, none⟩ (.slice la A.length lk) (HX35.out.load (i := 0) rfl (by kernel_rfl)) <| gzl rfl ⟨g7, 0, none⟩ (.agg (acA (y.1, y.2.1 - cosV t, y.2.2 + 1))) (load_acb hX74) <|
  gze (fun v w' => RowA w' V4.heap.size v (subA A t) ∧ Below V4.heap.size V4 w') (CP.mono fun e w' q => by obtain ⟨v, h1, h2, h3⟩ := q; exact ⟨v, h1, h2, h3⟩) (fun vV5 V5 hq => ?_)
 simp only [pu]
 refine gz1 (vV5) <| wn ?_
 simp only [pu]
 obtain ⟨hr5, hb6⟩ := hq
 have HB6 := Lib.hid (HB5.out.trans (hb6.mono HB5.out.size))
 have HR6 := Lib.hid (own_base hr5 HB5.out.size)
 have HX46 := Lib.hid (HX4.out.below HX4.out.lt HB6.out)
 clear CP hX74 hr5 hb6 HX35 HS HYW
 go_upto_region 5 with fail
 refine wl <| gz1 (.pointer (some ⟨g4, 5, none⟩)) <| gzl rfl ⟨g4, 5, none⟩ (.slice ta t.tr.length tk) (HX46.out.load (i := 5) rfl (by kernel_rfl)) <| gz2 (.int .i64 t.tr.length) (.int .i64 0) <| wn ?_
 simp only [pu]
 go_wp2_with fail
 clear HX46
 go_loopg [9, 37] t.tr.length (fun gg s9 s37 wx => ∃ (j : Nat) (B : List Ac) (v9 : Value), s9 = v9 ∧ s37 = .int .i64 j ∧ j ≤ t.tr.length ∧ Hid (GvJ A t j B) ∧ Hid (RowA wx W.heap.size v9 B) ∧ Hid (Below W.heap.size W wx) ∧ t.tr.length - j = gg)
 case atStart => exact ⟨0, subA A t, vV5, rfl, rfl, by omega, HJ0, HR6, HB6, by omega⟩
 case round =>
  obtain ⟨j, B, v9, rfl, rfl, hj, HJ, HR, HB, hg⟩ := hrel
  clear HJ0 HR6 HB6
  obtain ⟨ad, cd, rfl, hcs, hcd⟩ := HR.out.cs
  have hBn : B.length ≤ 300 := by have := HJ.out.n; have := HNL.out; omega
  by_cases hlt : j < t.tr.length
  ·skip
   obtain ⟨b, off, rfl, -, hrx⟩ := tf_range (HT.out.below HB.out) hlt
   have HLD := Lib.hid (load_tf hrx)
   obtain ⟨hJ1, hW1⟩ := HQ.out.js HJ.out hlt
   have hGV : givA B (tfa t.tr j) = putL B ((getA B (tfa t.tr j).1).1, (getA B (tfa t.tr j).1).2.1 + (tfa t.tr j).2, (getA B (tfa t.tr j).1).2.2) := rfl
   have HJ1 := Lib.hid hJ1
   generalize tfa t.tr j = x at *
   have hn16 := HNL.out.2
   have HG := Lib.hid hg
   obtain ⟨V2, hst, hb2, hbx⟩ := new_tf wr x
   obtain ⟨V3, hst3, hb3, hbz⟩ := new_ac V2 (x.1, 0, 0)
   have hbv := hb2.trans (hb3.mono hb2.size)
   have CF := ref_find ad cd B x.1 V3 (hcs.below hbv) (by omega)
   have hcx := fnd_cases B x.1
   generalize givA B x = B2 at *
   generalize getA B x.1 = z at *
   generalize fndI B x.1 = fi at *
   clear hrx hg hJ1 HJ
   go_upto_region 6 with fail
   refine wl <| gzb (lss_n rfl (j) (t.tr.length) dT) <| wn ?_
   simp only [pu]
   go_upto_region 7 with fail
   refine wl <| gzv (.pointer (some ⟨b, off + j * 2, none⟩)) (idx_tf b off t.tr.length tk j hlt _ _ _ rfl (by kernel_rfl) (by kernel_rfl)) <| gzl rfl ⟨b, off + j * 2, none⟩ (.agg (tfA x)) (HLD.out) ?_
   simp only [pu]
   refine run_to rfl (some 11) rfl (.pointer (some ⟨wr.heap.size, 0, none⟩)) (wr.alloc (.cells (tfA zTf) 35)) (by kernel_rfl) ?_
   simp only [pu]
   refine gzs rfl (hst) <| wn ?_
   obtain ⟨g11, hg11⟩ : ∃ g11, wr.heap.size = g11 := ⟨_, rfl⟩
   have hbx3 := hbx.below hbx.lt hb3
   rw [hg11] at hbx hbx3 hst ⊢
   clear hst HLD
   go_upto_region 8 with fail
   refine wl <| gz1 (.pointer (some ⟨g11, 0, none⟩)) <| gzl rfl ⟨g11, 0, none⟩ (.string x.1) (hbx.load (i := 0) rfl (by kernel_rfl)) <| gz1 (.agg #[.string x.1, .int .u64 0, .int .u64 0]) ?_
   simp only [pu]
   refine run_to rfl (some 12) rfl (.pointer (some ⟨V2.heap.size, 0, none⟩)) (V2.alloc (.cells (acA zAc) 24)) (by kernel_rfl) ?_
   simp only [pu]
   refine gzs rfl (hst3) <| wn ?_
   obtain ⟨g12, hg12⟩ : ∃ g12, V2.heap.size = g12 := ⟨_, rfl⟩
   have hG12 : wr.heap.size ≤ g12 := by rw [← hg12]; exact hb2.size
   rw [hg12] at hbz hst3 ⊢
   clear hst3
   go_upto_region 9 with fail
   refine wl <| gz2 (.slice ad B.length cd) (.pointer (some ⟨g11, 0, none⟩)) <| gzl rfl ⟨g11, 0, none⟩ (.string x.1) (hbx3.load (i := 0) rfl (by kernel_rfl)) <| gzc (.int .i64 fi) (fun w' => Below V3.heap.size V3 w') (CF) (fun V4 hV4 => ?_)
   simp only [pu]
   refine gz1 (.int .i64 fi) <| wn ?_
   simp only [pu]
   have hb4 := hbv.trans (hV4.mono hbv.size)
   have hbz4 := hbz.below hbz.lt hV4
   have hbx4 := hbx3.below hbx3.lt hV4
   have hne : g11 ≠ g12 := by rw [← hg11, ← hg12]; have := hbx.lt; rw [← hg11] at this; omega
   clear CF hV4 hbz hbx hbx3 hb2 hb3 hbv hg11 hg12
   rcases hcx with ⟨hf, rfl, rfl⟩ | ⟨hf, rfl, rfl⟩
   ·skip
    obtain ⟨bb, bo, e1, -, hrz⟩ := ac_range (hcs.below hb4) hf
    subst e1
    have HLZ := Lib.hid (load_ac hrz)
    obtain ⟨hst5, hX5⟩ := store_ac (y := aca B (fndL B x.1)) hbz4
    have hX11 := hbx4.but (But.setRow (g := g12) V4 (acA (aca B (fndL B x.1)))) hne
    have hb5 : Below wr.heap.size wr (V4.setRow g12 (acA (aca B (fndL B x.1)))) := belowRow hb4 hG12 _
    generalize fndL B x.1 = fl at *
    generalize aca B fl = z at *
    generalize V4.setRow g12 (acA z) = V5 at *
    clear hrz hbx4 hbz4
    go_upto_region 10 with fail
    refine wl <| gz1 (.int .i64 (fl : Nat)) <| gzb (geq_n rfl (fl : Nat) 0 dT) <| wn ?_
    simp only [pu]
    go_upto_region 11 with fail
    refine wl <| gz2 (.slice (some ⟨bb, bo, none⟩) B.length cd) (.int .i64 (fl : Nat)) <| gzv (.pointer (some ⟨bb, bo + fl * 3, none⟩)) (idx_ac bb bo B.length cd fl hf _ _ _ rfl (by kernel_rfl) (by kernel_rfl)) <| gzl rfl ⟨bb, bo + fl * 3, none⟩ (.agg (acA z)) (HLZ.out) <|
     gzs rfl (hst5) <| wn ?_
    simp only [pu]
    clear hst5 HLZ
    obtain ⟨V6, hst6, hX6b, hb6, -⟩ := st_cell (i := 1) (ty := 22) (v := .int .u64 (z.2.1 + x.2)) (cs' := acA (z.1, z.2.1 + x.2, z.2.2)) hX5 hb5 hG12 (by show 1 < 3; decide) rfl (by kernel_rfl) rfl
    have CP := ref_put (some ⟨bb, bo, none⟩) cd B (z.1, z.2.1 + x.2, z.2.2) V6 (hcs.below hb6) hcd (by omega)
    rw [← hGV] at CP
    go_upto_region 12 with fail
    refine wl <| gz1 (.pointer (some ⟨g12, 1, none⟩)) <| gzl rfl ⟨g12, 1, none⟩ (.int .u64 z.2.1) (hX5.load (i := 1) rfl (by kernel_rfl)) <| gz1 (.pointer (some ⟨g11, 1, none⟩)) <| gzl rfl ⟨g11, 1, none⟩ (.int .u64 x.2) (hX11.load (i := 1) rfl (by kernel_rfl)) <|
     gzw (.int .u64 (z.2.1 + x.2)) (add_ub rfl z.2.1 x.2 hW1) <| gz1 (.pointer (some ⟨g12, 1, none⟩)) <| gzs rfl (hst6) <| wn ?_
    simp only [pu]
    go_upto_region 13 with fail
    refine wl <| gz1 (.slice (some ⟨bb, bo, none⟩) B.length cd) <| gzl rfl ⟨g12, 0, none⟩ (.agg (acA (z.1, z.2.1 + x.2, z.2.2))) (load_acb hX6b) <|
     gze (fun v w' => RowA w' V6.heap.size v (B2) ∧ Below V6.heap.size V6 w') (CP.mono fun e w' q => by obtain ⟨v, h1, h2, h3⟩ := q; exact ⟨v, h1, h2, h3⟩) (fun vV7 V7 hq => ?_)
    simp only [pu]
    refine gz1 (vV7) <| wn ?_
    simp only [pu]
    obtain ⟨hr7, hb7⟩ := hq
    have hb8 := hb6.trans (hb7.mono hb6.size)
    have HB8 := Lib.hid (HB.out.trans (hb8.mono HB.out.size))
    have HR8 := Lib.hid (own_base hr7 (Nat.le_trans HB.out.size hb6.size))
    clear CP hst6 hX6b hb6 hr7 hb7 hb8
    go_upto_region 14 with fail
    refine wl <| gzw (.int .i64 (j + 1 : Nat)) (add_nat rfl j 1 (by omega)) <| gz1 (.int .i64 (j + 1 : Nat)) <| wn ?_
    simp only [pu]
    go_wp2_with fail
    go_roundg (t.tr.length - (j + 1))
    case measure => have := HG.out; omega
    case rel => exact ⟨j + 1, B2, vV7, rfl, rfl, hlt, HJ1, HR8, HB8, rfl⟩
   ·skip
    go_upto_region 10 with fail
    refine wl <| gz1 (.int .i64 (-1)) <| gzb (geq_n rfl (-1) 0 dF) <| wn ?_
    simp only [pu]
    obtain ⟨V6, hst6, hX6b, hb6, -⟩ := st_cell (i := 1) (ty := 22) (v := .int .u64 ((x.1, 0, 0).2.1 + x.2)) (cs' := acA ((x.1, 0, 0).1, (x.1, 0, 0).2.1 + x.2, (x.1, 0, 0).2.2)) hbz4 hb4 hG12 (by show 1 < 3; decide) rfl (by kernel_rfl) rfl
    have CP := ref_put ad cd B ((x.1, 0, 0).1, (x.1, 0, 0).2.1 + x.2, (x.1, 0, 0).2.2) V6 (hcs.below hb6) hcd (by omega)
    rw [← hGV] at CP
    go_upto_region 12 with fail
    refine wl <| gz1 (.pointer (some ⟨g12, 1, none⟩)) <| gzl rfl ⟨g12, 1, none⟩ (.int .u64 (x.1, 0, 0).2.1) (hbz4.load (i := 1) rfl (by kernel_rfl)) <| gz1 (.pointer (some ⟨g11, 1, none⟩)) <| gzl rfl ⟨g11, 1, none⟩ (.int .u64 x.2) (hbx4.load (i := 1) rfl (by kernel_rfl)) <|
     gzw (.int .u64 ((x.1, 0, 0).2.1 + x.2)) (add_ub rfl (x.1, 0, 0).2.1 x.2 hW1) <| gz1 (.pointer (some ⟨g12, 1, none⟩)) <| gzs rfl (hst6) <| wn ?_
    simp only [pu]
    go_upto_region 13 with fail
    refine wl <| gz1 (.slice ad B.length cd) <| gzl rfl ⟨g12, 0, none⟩ (.agg (acA ((x.1, 0, 0).1, (x.1, 0, 0).2.1 + x.2, (x.1, 0, 0).2.2))) (load_acb hX6b) <|
     gze (fun v w' => RowA w' V6.heap.size v (B2) ∧ Below V6.heap.size V6 w') (CP.mono fun e w' q => by obtain ⟨v, h1, h2, h3⟩ := q; exact ⟨v, h1, h2, h3⟩) (fun vV7 V7 hq => ?_)
    simp only [pu]
    refine gz1 (vV7) <| wn ?_
    simp only [pu]
    obtain ⟨hr7, hb7⟩ := hq
    have hb8 := hb6.trans (hb7.mono hb6.size)
    have HB8 := Lib.hid (HB.out.trans (hb8.mono HB.out.size))
    have HR8 := Lib.hid (own_base hr7 (Nat.le_trans HB.out.size hb6.size))
    clear CP hst6 hX6b hb6 hr7 hb7 hb8
    go_upto_region 14 with fail
    refine wl <| gzw (.int .i64 (j + 1 : Nat)) (add_nat rfl j 1 (by omega)) <| gz1 (.int .i64 (j + 1 : Nat)) <| wn ?_
    simp only [pu]
    go_wp2_with fail
    go_roundg (t.tr.length - (j + 1))
    case measure => have := HG.out; omega
    case rel => exact ⟨j + 1, B2, vV7, rfl, rfl, hlt, HJ1, HR8, HB8, rfl⟩
  ·skip
   obtain rfl : t.tr.length = j := by omega
   have hfin : doneL A t = B := (HJ.out.is).symm
   have HX3 := Lib.hid (HX3.out.below HX3.out.lt HB.out)
   have HX4 := Lib.hid (HX4.out.below HX4.out.lt HB.out)
   obtain ⟨hst9, hX9⟩ := store_lg (a' := ad) (n' := B.length) (k' := cd) (c' := c + t.fee) (HX6.out.below HX6.out.lt HB.out)
   have hrow := own_but HR.out (But.setRow (g := g6) wr (lgA ad B.length cd (c + t.fee))) HG6L.out
   have hb9 := belowRow (HB0.out.trans (HB.out.mono HB0.out.size)) HG6.out (lgA ad B.length cd (c + t.fee))
   have HE : Hid (RowA (wr.setRow g6 (lgA ad B.length cd (c + t.fee))) w.heap.size (.slice ad B.length cd) B ∧ Below w.heap.size w (wr.setRow g6 (lgA ad B.length cd (c + t.fee)))) := Lib.hid ⟨own_base hrow HB0.out.size, hb9⟩
   generalize wr.setRow g6 (lgA ad B.length cd (c + t.fee)) = V9 at *
   have HFN := Lib.hid hfin
   clear hrow hb9 HJ hfin hcs
   go_upto_region 6 with fail
   refine wl <| gzb (lss_n rfl (t.tr.length) (t.tr.length) dF) <| wn ?_
   simp only [pu]
   go_upto_region 15 with fail
   refine wl <| gz2 (.slice ad B.length cd) (.pointer (some ⟨g3, 1, none⟩)) <| gzl rfl ⟨g3, 1, none⟩ (.int .u64 c) (HX3.out.load (i := 1) rfl (by kernel_rfl)) <| gz1 (.pointer (some ⟨g4, 3, none⟩)) <| gzl rfl ⟨g4, 3, none⟩ (.int .u64 t.fee) (HX4.out.load (i := 3) rfl (by kernel_rfl)) <|
    gzw (.int .u64 (c + t.fee)) (add_ub rfl c t.fee HCF.out) <| gz1 (.agg (lgA ad B.length cd (c + t.fee))) <| gzs rfl (hst9) <| wn ?_
   simp only [pu]
   go_wp2_with fail
   exact bodyPost_ret (results_1c rfl (by kernel_rfl) (load_lg hX9)) rfl (by show LedR w (doneL A t) (c + t.fee) _ _; rw [HFN.out]; exact ⟨ad, cd, rfl, HE.out⟩)
end Go.Proofs.Ytglglhcnofbagaa.Lg
namespace Go.Proofs.Ytglglhcnofbagaa.Lg
attribute [local irreducible] wpList wpQuiet
set_option maxRecDepth 100000
open Mo (usedV prioV mulB mulV)
open Go.RowKit
set_option linter.unusedSimpArgs false
set_option linter.unusedVariables false

section
variable {ρ : Operand → Value} {o : Oper} {x y : Operand}
theorem neq_u6 (ho : o.op = .binOp .neq 22 x y 22) (a b : Int) {t : Bool} (ht : decide (a = b) = t) (hx : ρ x = .int .u64 a) (hy : ρ y = .int .u64 b) (w : World) : (execOp ρ o).run Try.prog w = .ok (.value (.bool (!t))) w := by
 have e : (a != b) = !t := by rw [← ht]; rfl
 unfold execOp
 simp only [ho, hx, hy]
 go_simp
theorem eql_u6 (ho : o.op = .binOp .eql 22 x y 22) (a b : Int) {t : Bool} (ht : decide (a = b) = t) (hx : ρ x = .int .u64 a) (hy : ρ y = .int .u64 b) (w : World) : (execOp ρ o).run Try.prog w = .ok (.value (.bool t)) w := by
 have e : (a == b) = t := ht
 unfold execOp
 simp only [ho, hx, hy]
 go_simp
theorem lss_u6 (ho : o.op = .binOp .lss 22 x y 22) (a b : Int) {t : Bool} (ht : decide (a < b) = t) (hx : ρ x = .int .u64 a) (hy : ρ y = .int .u64 b) (w : World) : (execOp ρ o).run Try.prog w = .ok (.value (.bool t)) w := by
 rw [← ht]
 unfold execOp
 simp only [ho, hx, hy]
 go_simp
end
/-- What is asked of a ledger that is valid and a transaction that was read. -/
structure FaQ (A : List Ac) (c price : Int) (t : Txd) : Prop where
 v : valE A c = 0
 w : AcW A
 cw : W64 c
 p : W64 price
 sq : W64 t.sq
 gas : W64 t.gas
 f : W64 t.fee
 a : ∀ x, x ∈ t.tr → W64 x.2
 m : t.tr.length ≤ 16
theorem FaQ.dn {A : List Ac} {c price : Int} {t : Txd} (h : FaQ A c price t) (h1 : (getX A t.snd).2 = true) (h2 : (getX A t.snd).1.2.2 = t.sq) (h3 : ¬ t.sq = 18446744073709551615) (h4 : cosB t = true) (h5 : ¬ (getX A t.snd).1.2.1 < cosV t) : DnQ A c t := by
 obtain ⟨v1, v2, v3, v4⟩ := valE_ok h.v
 have v5 : tot (c :: bals A) < 18446744073709551616 := of_decide_eq_true v4
 rw [tot_cons] at v5
 have := h.sq.2
 exact ⟨h.w, h.cw, v1, v5, h1, by omega, h4, by omega, h.f, h.a, h.m⟩
set_option maxRecDepth 100000 in
set_option maxHeartbeats 8000000 in
theorem ref_fault (A : List Ac) (c price size : Int) (t : Txd) (la ta : Option Addr) (lk tk : Nat) (w : World) (hL : Cs w la (acc A)) (hlk : A.length ≤ lk) (hT : Cs w ta (tfc t.tr)) (hQ : FaQ A c price t) :
  Calls Try.prog 18 #[.agg (lgA la A.length lk c), .int .u64 price, .agg (txA t ta tk), .int .i64 size] w fun e w' => e = .returned (.int .i64 (faultX A price t size)) ∧ Below w.heap.size w w' := by
 obtain ⟨hb0, hX4, hX6⟩ := two_boxes w (lgA la A.length lk c) (txA t ta tk) 27 32
 have hA := hL.below hb0
 have hT0 := hT.below hb0
 have HQ := Lib.hid hQ
 have hn := (valE_ok hQ.v).1
 have HNL : Hid (A.length ≤ 256 ∧ t.tr.length ≤ 16) := Lib.hid ⟨hn, hQ.m⟩
 have HDN := Lib.hid (fun h1 h2 h3 h4 h5 => hQ.dn h1 h2 h3 h4 h5)
 obtain ⟨f8, h8⟩ : ∃ v : Int, v = (if 256 < (doneL A t).length then 3 else 0) := ⟨_, rfl⟩
 obtain ⟨f7, h7⟩ : ∃ v : Int, v = (if (getX A t.snd).1.2.1 < cosV t then 17 else f8) := ⟨_, rfl⟩
 obtain ⟨f6, h6⟩ : ∃ v : Int, v = (if cosB t = false then 6 else f7) := ⟨_, rfl⟩
 obtain ⟨f5, h5⟩ : ∃ v : Int, v = (if t.fee < mulV t.gas price then 16 else f6) := ⟨_, rfl⟩
 obtain ⟨f4, h4⟩ : ∃ v : Int, v = (if mulB t.gas price = false then 6 else f5) := ⟨_, rfl⟩
 obtain ⟨f3, h3⟩ : ∃ v : Int, v = (if t.gas < usedV size t.tr.length then 15 else f4) := ⟨_, rfl⟩
 obtain ⟨f2, h2⟩ : ∃ v : Int, v = (if t.sq = 18446744073709551615 then 6 else f3) := ⟨_, rfl⟩
 obtain ⟨f1, h1⟩ : ∃ v : Int, v = (if (getX A t.snd).1.2.2 ≠ t.sq then 14 else f2) := ⟨_, rfl⟩
 have h0 : faultX A price t size = (if (getX A t.snd).2 = false then 13 else f1) := by rw [h1, h2, h3, h4, h5, h6, h7, h8]; rfl
 obtain ⟨f0, hf0⟩ : ∃ v : Int, v = faultX A price t size := ⟨_, rfl⟩
 rw [← hf0] at h0 ⊢
 have CC := Lib.hid (fun V (h : Cs V ta (tfc t.tr)) => ref_cost t ta tk V h (by have := hQ.m; omega) hQ.f hQ.a)
 have CU := fun V => Mo.ref_used size t.tr.length V
 have CN := fun V => Mo.ref_need t.gas price V hQ.gas hQ.p
 obtain ⟨y, hy⟩ : ∃ y, (getX A t.snd).1 = y := ⟨_, rfl⟩
 obtain ⟨gb, hgb⟩ : ∃ gb, (getX A t.snd).2 = gb := ⟨_, rfl⟩
 rw [hy] at h1 h7
 rw [hgb] at h0
 have HY := Lib.hid hy
 have HGB := Lib.hid hgb
 generalize usedV size t.tr.length = us at *
 generalize mulV t.gas price = mv at *
 generalize mulB t.gas price = mb at *
 have H0 := Lib.hid h0; have H1 := Lib.hid h1; have H2 := Lib.hid h2; have H3 := Lib.hid h3; have H4 := Lib.hid h4; have H5 := Lib.hid h5; have H6 := Lib.hid h6; have H7 := Lib.hid h7; have H8 := Lib.hid h8
 clear h0 h1 h2 h3 h4 h5 h6 h7 h8 hf0 hL hT hQ hn
 go_enter Try.func18, Try.ntmps18
 go_upto_region 1 with fail
 change Code.wp _ _ _ _ ((w.alloc (.cells (lgA la A.length lk c) 27)).alloc (.cells (txA t ta tk) 32))
 generalize (w.alloc (.cells (lgA la A.length lk c) 27)).alloc (.cells (txA t ta tk) 32) = W at *
 obtain ⟨g4, hg4⟩ : ∃ g4, w.heap.size = g4 := ⟨_, rfl⟩
 obtain ⟨g6, hg6⟩ : ∃ g6, g4 + 1 = g6 := ⟨_, rfl⟩
 have HB0 := Lib.hid hb0
 rw [show w.heap.size + 1 = g6 by omega] at hX6
 rw [hg4] at hX4
 simp only [hg4]
 simp only [hg6]
 have HX4 := Lib.hid hX4
 have HX6 := Lib.hid hX6
 have HA := Lib.hid hA
 have HT := Lib.hid hT0
 have CG := ref_get la lk A c t.snd W hA (by have := HNL.out; omega)
 rw [hy, hgb] at CG
 clear hb0 hX4 hX6 hA hT0 hg4 hg6 hy hgb
 refine wl <| gzl rfl ⟨g4, 0, none⟩ (.agg (lgA la A.length lk c)) (load_lg HX4.out) <| gz1 (.pointer (some ⟨g6, 0, none⟩)) <| gzl rfl ⟨g6, 0, none⟩ (.string t.snd) (HX6.out.load (i := 0) rfl (by kernel_rfl)) <| gzc (.tuple #[.agg (acA y), .bool gb]) (fun w' => Below W.heap.size W w') CG (fun W1 hW1 => ?_)
 obtain ⟨V2, hst2, hb2, hbx2⟩ := new_ac W1 y
 simp only [pu]
 refine gz3 (.tuple #[.agg (acA y), .bool gb]) (.agg (acA y)) (.bool gb) ?_
 simp only [pu]
 refine run_to rfl (some 9) rfl (.pointer (some ⟨W1.heap.size, 0, none⟩)) (W1.alloc (.cells (acA zAc) 24)) (by kernel_rfl) ?_
 simp only [pu]
 refine gzs rfl (hst2) <| gz1 (.bool gb) <| wn ?_
 simp only [pu]
 have hb3 := hW1.trans (hb2.mono hW1.size)
 obtain ⟨g9, hg9⟩ : ∃ g9, W1.heap.size = g9 := ⟨_, rfl⟩
 rw [hg9] at hbx2 ⊢
 have HX9 := Lib.hid hbx2
 have HB2 := Lib.hid hb3
 have HX62 := Lib.hid (HX6.out.below HX6.out.lt hb3)
 clear CG hW1 hst2 hb2 hg9 hbx2 hb3
 cases gb
 ·skip
  go_upto_region 2 with fail
  refine wl <| gz3 (.bool false) (.bool true) (.bool true) <| wn ?_
  simp only [pu]
  obtain rfl : f0 = 13 := by rw [H0.out]; rfl
  go_upto_region 3 with fail
  refine wl <| gz1 (.int .i64 13) <| wn ?_
  simp only [pu]
  go_wp2_with fail
  go_ret
  exact ⟨rfl, HB0.out.trans (HB2.out.mono HB0.out.size)⟩
 ·skip
  have E0 := Lib.hid (show f0 = f1 by rw [H0.out]; rfl)
  clear H0
  go_upto_region 2 with fail
  refine wl <| gz3 (.bool true) (.bool false) (.bool false) <| wn ?_
  simp only [pu]
  by_cases hs : y.2.2 = t.sq
  ·skip
   have E1 := Lib.hid (show f1 = f2 by rw [H1.out, if_neg (by simpa using hs)])
   clear H1
   go_upto_region 4 with fail
   refine wl <| gz1 (.pointer (some ⟨g9, 2, none⟩)) <| gzl rfl ⟨g9, 2, none⟩ (.int .u64 y.2.2) (HX9.out.load (i := 2) rfl (by kernel_rfl)) <| gz1 (.pointer (some ⟨g6, 1, none⟩)) <| gzl rfl ⟨g6, 1, none⟩ (.int .u64 t.sq) (HX62.out.load (i := 1) rfl (by kernel_rfl)) <|
    gzb (neq_u6 rfl y.2.2 t.sq (decide_eq_true hs)) <| gz1 (.bool false) <| wn ?_
   simp only [pu]
   by_cases hm : t.sq = 18446744073709551615
   ·skip
    go_upto_region 6 with fail
    refine wl <| gz1 (.pointer (some ⟨g6, 1, none⟩)) <| gzl rfl ⟨g6, 1, none⟩ (.int .u64 t.sq) (HX62.out.load (i := 1) rfl (by kernel_rfl)) <| gzb (eql_u6 rfl t.sq 18446744073709551615 (decide_eq_true hm)) <| gz1 (.bool true) <|
     wpList_nil ?_
    simp only [pu]
    obtain rfl : f0 = 6 := by rw [E0.out, E1.out, H2.out, if_pos hm]
    go_upto_region 7 with fail
    refine wl <| gz1 (.int .i64 6) <| wn ?_
    simp only [pu]
    go_wp2_with fail
    go_ret
    exact ⟨rfl, HB0.out.trans (HB2.out.mono HB0.out.size)⟩
   ·skip
    have E2 := Lib.hid (show f2 = f3 by rw [H2.out, if_neg hm])
    clear H2
    go_upto_region 6 with fail
    refine wl <| gz1 (.pointer (some ⟨g6, 1, none⟩)) <| gzl rfl ⟨g6, 1, none⟩ (.int .u64 t.sq) (HX62.out.load (i := 1) rfl (by kernel_rfl)) <| gzb (eql_u6 rfl t.sq 18446744073709551615 (decide_eq_false hm)) <| gz1 (.bool false) <|
     wpList_nil ?_
    simp only [pu]
    by_cases hga : t.gas < us
    ·skip
     go_upto_region 8 with fail
     have HXd : Hid (Bx V2.drew g6 (txA t ta tk) 32) := Lib.hid HX62.out
     refine wp_region_class (C := fun U => U = V2.drew) (by kernel_rfl) (by kernel_rfl) (rfl) ?_
     refine gy (.pointer (some ⟨g6, 2, none⟩)) <| gyl rfl ⟨g6, 2, none⟩ (.int .u64 t.gas) (fun U hU => by rw [hU]; exact HXd.out.load (i := 2) rfl (by kernel_rfl)) <| gy (.int .i64 size) <| gy (.pointer (some ⟨g6, 5, none⟩)) <|
       gyl rfl ⟨g6, 5, none⟩ (.slice ta t.tr.length tk) (fun U hU => by rw [hU]; exact HXd.out.load (i := 5) rfl (by kernel_rfl)) <| gy (.int .i64 t.tr.length) ?_
     simp only [pu]
     refine gq_call (by kernel_rfl) (some 42) rfl 40 #[.int .i64 size, .int .i64 t.tr.length] (.int .u64 us) (fun U hU => by kernel_rfl) (fun U hU => (CU U).mono fun e w2 q => ⟨q.1, q.2 ▸ hU⟩) ?_
     simp only [pu]
     refine gyv (.bool true) (fun U hU => lss_u6 rfl t.gas us (decide_eq_true hga) (by kernel_rfl) (by kernel_rfl) _) <| gy (.bool true) ?_
     simp only [pu]
     apply wpQuiet_nil
     intro U hU
     have HB2 : Hid (Below W.heap.size W U) := Lib.hid (by rw [hU]; exact HB2.out.drew)
     have HX9 : Hid (Bx U g9 (acA y) 24) := Lib.hid (by rw [hU]; exact HX9.out)
     have HX62 : Hid (Bx U g6 (txA t ta tk) 32) := Lib.hid (by rw [hU]; exact HX62.out)
     clear hU
     obtain rfl : f0 = 15 := by rw [E0.out, E1.out, E2.out, H3.out, if_pos hga]
     go_upto_region 9 with fail
     refine wl <| gz1 (.int .i64 15) <| wn ?_
     simp only [pu]
     go_wp2_with fail
     go_ret
     exact ⟨rfl, HB0.out.trans (HB2.out.mono HB0.out.size)⟩
    ·skip
     have E3 := Lib.hid (show f3 = f4 by rw [H3.out, if_neg hga])
     clear H3
     go_upto_region 8 with fail
     have HXd : Hid (Bx V2.drew g6 (txA t ta tk) 32) := Lib.hid HX62.out
     refine wp_region_class (C := fun U => U = V2.drew) (by kernel_rfl) (by kernel_rfl) (rfl) ?_
     refine gy (.pointer (some ⟨g6, 2, none⟩)) <| gyl rfl ⟨g6, 2, none⟩ (.int .u64 t.gas) (fun U hU => by rw [hU]; exact HXd.out.load (i := 2) rfl (by kernel_rfl)) <| gy (.int .i64 size) <| gy (.pointer (some ⟨g6, 5, none⟩)) <|
       gyl rfl ⟨g6, 5, none⟩ (.slice ta t.tr.length tk) (fun U hU => by rw [hU]; exact HXd.out.load (i := 5) rfl (by kernel_rfl)) <| gy (.int .i64 t.tr.length) ?_
     simp only [pu]
     refine gq_call (by kernel_rfl) (some 42) rfl 40 #[.int .i64 size, .int .i64 t.tr.length] (.int .u64 us) (fun U hU => by kernel_rfl) (fun U hU => (CU U).mono fun e w2 q => ⟨q.1, q.2 ▸ hU⟩) ?_
     simp only [pu]
     refine gyv (.bool false) (fun U hU => lss_u6 rfl t.gas us (decide_eq_false hga) (by kernel_rfl) (by kernel_rfl) _) <| gy (.bool false) ?_
     simp only [pu]
     apply wpQuiet_nil
     intro U hU
     have HB2 : Hid (Below W.heap.size W U) := Lib.hid (by rw [hU]; exact HB2.out.drew)
     have HX9 : Hid (Bx U g9 (acA y) 24) := Lib.hid (by rw [hU]; exact HX9.out)
     have HX62 : Hid (Bx U g6 (txA t ta tk) 32) := Lib.hid (by rw [hU]; exact HX62.out)
     clear hU
     go_upto_region 10 with fail
     refine wl <| gz1 (.pointer (some ⟨g6, 2, none⟩)) <| gzl rfl ⟨g6, 2, none⟩ (.int .u64 t.gas) (HX62.out.load (i := 2) rfl (by kernel_rfl)) <| gz1 (.int .u64 price) <| gzc (.tuple #[.int .u64 mv, .bool mb]) (fun w' => U = w') (CN U) (fun V9 hV9 => ?_)
     subst hV9
     simp only [pu]
     refine gz5 (.tuple #[.int .u64 mv, .bool mb]) (.int .u64 mv) (.bool mb) (.int .u64 mv) (.bool mb) <| wn ?_
     simp only [pu]
     go_upto_region 11 with fail
     refine wl <| gzl rfl ⟨g6, 0, none⟩ (.agg (txA t ta tk)) (load_txb HX62.out) <| gzc (.tuple #[.int .u64 (cosV t), .bool (cosB t)]) (fun w' => Below U.heap.size U w') (CC.out U (HT.out.below HB2.out)) (fun V3 hV3 => ?_)
     simp only [pu]
     refine gz5 (.tuple #[.int .u64 (cosV t), .bool (cosB t)]) (.int .u64 (cosV t)) (.bool (cosB t)) (.int .u64 (cosV t)) (.bool (cosB t)) <| wn ?_
     simp only [pu]
     have HB3 := Lib.hid (HB2.out.trans (hV3.mono HB2.out.size))
     have HX93 := Lib.hid (HX9.out.below HX9.out.lt hV3)
     have HX63 := Lib.hid (HX62.out.below HX62.out.lt hV3)
     clear hV3 CU CN
     cases mb
     ·skip
      go_upto_region 12 with fail
      refine wl <| gz3 (.bool false) (.bool true) (.bool true) <| wn ?_
      simp only [pu]
      obtain rfl : f0 = 6 := by rw [E0.out, E1.out, E2.out, E3.out, H4.out]; rfl
      go_upto_region 13 with fail
      refine wl <| gz1 (.int .i64 6) <| wn ?_
      simp only [pu]
      go_wp2_with fail
      go_ret
      exact ⟨rfl, HB0.out.trans (HB3.out.mono HB0.out.size)⟩
     ·skip
      have E4 := Lib.hid (show f4 = f5 by rw [H4.out]; rfl)
      clear H4
      go_upto_region 12 with fail
      refine wl <| gz3 (.bool true) (.bool false) (.bool false) <| wn ?_
      simp only [pu]
      by_cases hfe : t.fee < mv
      ·skip
       go_upto_region 14 with fail
       refine wl <| gz1 (.pointer (some ⟨g6, 3, none⟩)) <| gzl rfl ⟨g6, 3, none⟩ (.int .u64 t.fee) (HX63.out.load (i := 3) rfl (by kernel_rfl)) <| gz1 (.int .u64 mv) <| gzb (lss_u6 rfl t.fee mv (decide_eq_true hfe)) <| gz1 (.bool true) <|
        wpList_nil ?_
       simp only [pu]
       obtain rfl : f0 = 16 := by rw [E0.out, E1.out, E2.out, E3.out, E4.out, H5.out, if_pos hfe]
       go_upto_region 15 with fail
       refine wl <| gz1 (.int .i64 16) <| wn ?_
       simp only [pu]
       go_wp2_with fail
       go_ret
       exact ⟨rfl, HB0.out.trans (HB3.out.mono HB0.out.size)⟩
      ·skip
       have E5 := Lib.hid (show f5 = f6 by rw [H5.out, if_neg hfe])
       clear H5
       go_upto_region 14 with fail
       refine wl <| gz1 (.pointer (some ⟨g6, 3, none⟩)) <| gzl rfl ⟨g6, 3, none⟩ (.int .u64 t.fee) (HX63.out.load (i := 3) rfl (by kernel_rfl)) <| gz1 (.int .u64 mv) <| gzb (lss_u6 rfl t.fee mv (decide_eq_false hfe)) <|
        gz1 (.bool false) <| wn ?_
       simp only [pu]
       cases hcb : cosB t
       ·skip
        go_upto_region 16 with fail
        refine wl <| gz3 (.bool false) (.bool true) (.bool true) <| wn ?_
        simp only [pu]
        obtain rfl : f0 = 6 := by rw [E0.out, E1.out, E2.out, E3.out, E4.out, E5.out, H6.out, if_pos hcb]
        go_upto_region 17 with fail
        refine wl <| gz1 (.int .i64 6) <| wn ?_
        simp only [pu]
        go_wp2_with fail
        go_ret
        exact ⟨rfl, HB0.out.trans (HB3.out.mono HB0.out.size)⟩
       ·skip
        have E6 := Lib.hid (show f6 = f7 by rw [H6.out, if_neg (by rw [hcb]; decide)])
        clear H6
        go_upto_region 16 with fail
        refine wl <| gz3 (.bool true) (.bool false) (.bool false) <| wn ?_
        simp only [pu]
        by_cases hfu : y.2.1 < cosV t
        ·skip
         go_upto_region 18 with fail
         refine wl <| gz1 (.pointer (some ⟨g9, 1, none⟩)) <| gzl rfl ⟨g9, 1, none⟩ (.int .u64 y.2.1) (HX93.out.load (i := 1) rfl (by kernel_rfl)) <| gz1 (.int .u64 (cosV t)) <| gzb (lss_u6 rfl y.2.1 (cosV t) (decide_eq_true hfu)) <|
          gz1 (.bool true) <| wn ?_
         simp only [pu]
         obtain rfl : f0 = 17 := by rw [E0.out, E1.out, E2.out, E3.out, E4.out, E5.out, E6.out, H7.out, if_pos hfu]
         go_upto_region 19 with fail
         refine wl <| gz1 (.int .i64 17) <| wn ?_
         simp only [pu]
         go_wp2_with fail
         go_ret
         exact ⟨rfl, HB0.out.trans (HB3.out.mono HB0.out.size)⟩
        ·skip
         have E7 := Lib.hid (show f7 = f8 by rw [H7.out, if_neg hfu])
         clear H7
         go_upto_region 18 with fail
         refine wl <| gz1 (.pointer (some ⟨g9, 1, none⟩)) <| gzl rfl ⟨g9, 1, none⟩ (.int .u64 y.2.1) (HX93.out.load (i := 1) rfl (by kernel_rfl)) <| gz1 (.int .u64 (cosV t)) <| gzb (lss_u6 rfl y.2.1 (cosV t) (decide_eq_false hfu)) <|
          gz1 (.bool false) <| wn ?_
         simp only [pu]
         have hdq := HDN.out HGB.out (by rw [HY.out]; exact hs) hm hcb (by rw [HY.out]; exact hfu)
         have CD := ref_done A c t la ta lk tk V3 (HA.out.below HB3.out) hlk (HT.out.below HB3.out) hdq
         have HX43 := Lib.hid (HX4.out.below HX4.out.lt HB3.out)
         have hdl : (doneL A t).length ≤ 300 := by have h1 := hdq.n; have h2 := hdq.m; have h3 := (done_gv hdq).n; omega
         generalize doneL A t = DL at *
         by_cases hli : 256 < DL.length
         ·skip
          go_upto_region 20 with fail
          refine wl <| gzl rfl ⟨g4, 0, none⟩ (.agg (lgA la A.length lk c)) (load_lg HX43.out) <| gzl rfl ⟨g6, 0, none⟩ (.agg (txA t ta tk)) (load_txb HX63.out) <| gz1 (.int .u64 (cosV t)) <|
           gze (fun v w' => (∃ ad kk, v = .agg (lgA ad DL.length kk (c + t.fee))) ∧ Below V3.heap.size V3 w') (CD.mono fun e w' q => by obtain ⟨ad, kk, h1, -, h3⟩ := q; exact ⟨_, h1, ⟨ad, kk, rfl⟩, h3⟩) (fun vv V4 hq => ?_)
          obtain ⟨⟨ad, kk, rfl⟩, hV4⟩ := hq
          simp only [pu]
          refine gz2 (.slice ad DL.length kk) (.int .i64 DL.length) <| gzb (gtr_n rfl DL.length 256 dT) <| wn ?_
          simp only [pu]
          have HB4 := Lib.hid (HB3.out.trans (hV4.mono HB3.out.size))
          clear hV4 CD
          obtain rfl : f0 = 3 := by rw [E0.out, E1.out, E2.out, E3.out, E4.out, E5.out, E6.out, E7.out, H8.out, if_pos hli]
          go_upto_region 21 with fail
          refine wl <| gz1 (.int .i64 3) <| wn ?_
          simp only [pu]
          go_wp2_with fail
          go_ret
          exact ⟨rfl, HB0.out.trans (HB4.out.mono HB0.out.size)⟩
         ·skip
          go_upto_region 20 with fail
          refine wl <| gzl rfl ⟨g4, 0, none⟩ (.agg (lgA la A.length lk c)) (load_lg HX43.out) <| gzl rfl ⟨g6, 0, none⟩ (.agg (txA t ta tk)) (load_txb HX63.out) <| gz1 (.int .u64 (cosV t)) <|
           gze (fun v w' => (∃ ad kk, v = .agg (lgA ad DL.length kk (c + t.fee))) ∧ Below V3.heap.size V3 w') (CD.mono fun e w' q => by obtain ⟨ad, kk, h1, -, h3⟩ := q; exact ⟨_, h1, ⟨ad, kk, rfl⟩, h3⟩) (fun vv V4 hq => ?_)
          obtain ⟨⟨ad, kk, rfl⟩, hV4⟩ := hq
          simp only [pu]
          refine gz2 (.slice ad DL.length kk) (.int .i64 DL.length) <| gzb (gtr_n rfl DL.length 256 dF) <| wn ?_
          simp only [pu]
          have HB4 := Lib.hid (HB3.out.trans (hV4.mono HB3.out.size))
          clear hV4 CD
          obtain rfl : f0 = 0 := by rw [E0.out, E1.out, E2.out, E3.out, E4.out, E5.out, E6.out, E7.out, H8.out, if_neg hli]
          go_upto_region 22 with fail
          refine wl <| gz1 (.int .i64 0) <| wn ?_
          simp only [pu]
          go_wp2_with fail
          go_ret
          exact ⟨rfl, HB0.out.trans (HB4.out.mono HB0.out.size)⟩
  ·skip
   go_upto_region 4 with fail
   refine wl <| gz1 (.pointer (some ⟨g9, 2, none⟩)) <| gzl rfl ⟨g9, 2, none⟩ (.int .u64 y.2.2) (HX9.out.load (i := 2) rfl (by kernel_rfl)) <| gz1 (.pointer (some ⟨g6, 1, none⟩)) <| gzl rfl ⟨g6, 1, none⟩ (.int .u64 t.sq) (HX62.out.load (i := 1) rfl (by kernel_rfl)) <|
    gzb (neq_u6 rfl y.2.2 t.sq (decide_eq_false hs)) <| gz1 (.bool true) <| wn ?_
   simp only [pu]
   obtain rfl : f0 = 14 := by rw [E0.out, H1.out, if_pos hs]
   go_upto_region 5 with fail
   refine wl <| gz1 (.int .i64 14) <| wn ?_
   simp only [pu]
   go_wp2_with fail
   go_ret
   exact ⟨rfl, HB0.out.trans (HB2.out.mono HB0.out.size)⟩
end Go.Proofs.Ytglglhcnofbagaa.Lg
