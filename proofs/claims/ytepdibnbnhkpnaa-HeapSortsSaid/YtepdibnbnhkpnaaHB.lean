/-
  The program's compare and Before, the reference's Before: contracts.
-/
import Derived.Test.YtepdibnbnhkpnaaHO
namespace Go.Proofs.Ytepdibnbnhkpnaa
open Go.RowKit
set_option linter.unusedSimpArgs false
set_option linter.unusedVariables false

theorem ne_u {ρ : Operand → Value} {o : Oper} {x y : Operand} (ho : o.op = .binOp .neq 22 x y 22) (a b : Int) (hx : ρ x = .int .u64 a) (hy : ρ y = .int .u64 b) (w : World) : (execOp ρ o).run Try.prog w = .ok (.value (.bool (a != b))) w := by
  unfold execOp
  simp only [ho, hx, hy]
  go_simp
theorem gtr_u {ρ : Operand → Value} {o : Oper} {x y : Operand} (ho : o.op = .binOp .gtr 22 x y 22) (a b : Int) (hx : ρ x = .int .u64 a) (hy : ρ y = .int .u64 b) (w : World) : (execOp ρ o).run Try.prog w = .ok (.value (.bool (decide (b < a)))) w := by
  unfold execOp
  simp only [ho, hx, hy]
  go_simp
theorem two_box (x y : It) (w : World) : Gd w ((w.alloc (.cells (itA x) 24)).alloc (.cells (itA y) 24)) ∧ Bx ((w.alloc (.cells (itA x) 24)).alloc (.cells (itA y) 24)) w.heap.size (itA x) 24 ∧ Bx ((w.alloc (.cells (itA x) 24)).alloc (.cells (itA y) 24)) (w.heap.size + 1) (itA y) 24 := by
  refine ⟨(Gd.alloc w (.cells (itA x) 24)).trans (Gd.alloc _ (.cells (itA y) 24)), ?_, ?_⟩
  · have h0 : Bx (w.alloc (.cells (itA x) 24)) w.heap.size (itA x) 24 := heap_alloc_last w _
    exact h0.below h0.lt ((Below.refl _ _).alloc (Nat.le_refl _) _)
  · have h1 := heap_alloc_last (w.alloc (.cells (itA x) 24)) (.cells (itA y) 24)
    have e : (w.alloc (.cells (itA x) 24)).heap.size = w.heap.size + 1 := by simp
    rw [e] at h1
    exact h1
/-- The fields of an item in a block. -/
theorem ld_f0 {w : World} {g : Nat} {x : It} (h : Bx w g (itA x) 24) : (Instr.loadAt 3 (.pointer (some ⟨g, 0, none⟩))).run Try.prog w = .ok (.int .i64 x.1) w := h.load (i := 0) rfl (by kernel_rfl)
theorem ld_f1 {w : World} {g : Nat} {x : It} (h : Bx w g (itA x) 24) : (Instr.loadAt 22 (.pointer (some ⟨g, 1, none⟩))).run Try.prog w = .ok (.int .u64 x.2.1) w := h.load (i := 1) rfl (by kernel_rfl)
theorem ld_f2 {w : World} {g : Nat} {x : It} (h : Bx w g (itA x) 24) : (Instr.loadAt 3 (.pointer (some ⟨g, 2, none⟩))).run Try.prog w = .ok (.int .i64 x.2.2) w := h.load (i := 2) rfl (by kernel_rfl)
theorem fnz3 (x y : It) : fnz [cpI y.2.1 x.2.1, cpI x.2.2 y.2.2, cpI x.1 y.1] = cpIt x y := by
  unfold cpIt fnz fnz fnz fnz
  by_cases a1 : cpI y.2.1 x.2.1 = 0
  · rw [if_pos a1, if_pos a1]
    by_cases a2 : cpI x.2.2 y.2.2 = 0
    · rw [if_pos a2, if_pos a2]
      by_cases a3 : cpI x.1 y.1 = 0
      · rw [if_pos a3, a3]
      · rw [if_neg a3]
    · rw [if_neg a2, if_neg a2]
  · rw [if_neg a1, if_neg a1]
theorem three_int (a b c : Int) (w : World) : (Instr.buildSlice 25 3 #[(0, .int .i64 a), (1, .int .i64 b), (2, .int .i64 c)]).run Try.prog w = .ok (.slice (some ⟨w.heap.size, 0, none⟩) 3 3) (w.alloc (.cells #[.int .i64 a, .int .i64 b, .int .i64 c] 3)) := by
  obtain ⟨i0, hi, hz0, hz1, hz2⟩ := info_parts infoI
  refine run_buildSlice w 25 3 3 _ #[.int .i64 a, .int .i64 b, .int .i64 c] i0 _ Try.underlying25 hi hz0 (by rw [hz1]; omega) (by rw [hz1]; omega) ?_
  rw [hz1]
  kernel_rfl
set_option maxRecDepth 100000 in
set_option maxHeartbeats 2000000 in
theorem cmp_it (x y : It) (w : World) : Calls Try.prog 25 #[.agg (itA x), .agg (itA y)] w fun e w' => e = .returned (.int .i64 (cpIt x y)) ∧ Gd w w' := by
  have HF := Lib.hid (fnz3 x y)
  generalize cpIt x y = R at *
  obtain ⟨hg, h1, h2⟩ := two_box x y w
  obtain ⟨g0, e0⟩ : ∃ g0, w.heap.size = g0 := ⟨_, rfl⟩
  rw [e0] at h1 h2
  go_enter Try.func25, Try.ntmps25
  go_upto_region 1 with fail
  change Code.wp _ _ _ _ ((w.alloc (.cells (itA x) 24)).alloc (.cells (itA y) 24))
  generalize (w.alloc (.cells (itA x) 24)).alloc (.cells (itA y) 24) = W at *
  clear e0
  have HG := Lib.hid hg
  clear hg
  refine wp_region_class_tail (C := fun U => Bx U g0 (itA x) 24 ∧ Bx U (g0 + 1) (itA y) 24 ∧ Gd W U) 15 (by kernel_rfl) (by kernel_rfl) (⟨h1, h2, Gd.drew W⟩) ?_
  simp only [List.take_succ_cons, List.take_zero, List.drop_succ_cons, List.drop_zero]
  refine gq_val (by kernel_rfl) (some 5) rfl (.pointer (some ⟨g0 + 1, 1, none⟩)) (fun U hU => by kernel_rfl) ?_
  simp only [Act.put, List.setIfInBounds_toArray, List.set_cons_succ, List.set_cons_zero]
  refine gq_load (by kernel_rfl) (some 6) rfl 22 (.tmp 5) rfl ⟨g0 + 1, 1, none⟩ (.int .u64 y.2.1) (by kernel_rfl) (fun U hU => ld_f1 hU.2.1) ?_
  simp only [Act.put, List.setIfInBounds_toArray, List.set_cons_succ, List.set_cons_zero]
  refine gq_val (by kernel_rfl) (some 7) rfl (.pointer (some ⟨g0, 1, none⟩)) (fun U hU => by kernel_rfl) ?_
  simp only [Act.put, List.setIfInBounds_toArray, List.set_cons_succ, List.set_cons_zero]
  refine gq_load (by kernel_rfl) (some 8) rfl 22 (.tmp 7) rfl ⟨g0, 1, none⟩ (.int .u64 x.2.1) (by kernel_rfl) (fun U hU => ld_f1 hU.1) ?_
  simp only [Act.put, List.setIfInBounds_toArray, List.set_cons_succ, List.set_cons_zero]
  refine gq_call (by kernel_rfl) (some 9) rfl 31 #[.int .u64 y.2.1, .int .u64 x.2.1] (.int .i64 (cpI y.2.1 x.2.1)) (fun U hU => by kernel_rfl) (fun U hU => (cmp_u (y.2.1) (x.2.1) U).mono fun e w2 q => ⟨q.1, q.2 ▸ hU⟩) ?_
  simp only [Act.put, List.setIfInBounds_toArray, List.set_cons_succ, List.set_cons_zero]
  refine gq_val (by kernel_rfl) (some 10) rfl (.pointer (some ⟨g0, 2, none⟩)) (fun U hU => by kernel_rfl) ?_
  simp only [Act.put, List.setIfInBounds_toArray, List.set_cons_succ, List.set_cons_zero]
  refine gq_load (by kernel_rfl) (some 11) rfl 3 (.tmp 10) rfl ⟨g0, 2, none⟩ (.int .i64 x.2.2) (by kernel_rfl) (fun U hU => ld_f2 hU.1) ?_
  simp only [Act.put, List.setIfInBounds_toArray, List.set_cons_succ, List.set_cons_zero]
  refine gq_val (by kernel_rfl) (some 12) rfl (.pointer (some ⟨g0 + 1, 2, none⟩)) (fun U hU => by kernel_rfl) ?_
  simp only [Act.put, List.setIfInBounds_toArray, List.set_cons_succ, List.set_cons_zero]
  refine gq_load (by kernel_rfl) (some 13) rfl 3 (.tmp 12) rfl ⟨g0 + 1, 2, none⟩ (.int .i64 y.2.2) (by kernel_rfl) (fun U hU => ld_f2 hU.2.1) ?_
  simp only [Act.put, List.setIfInBounds_toArray, List.set_cons_succ, List.set_cons_zero]
  refine gq_call (by kernel_rfl) (some 14) rfl 32 #[.int .i64 x.2.2, .int .i64 y.2.2] (.int .i64 (cpI x.2.2 y.2.2)) (fun U hU => by kernel_rfl) (fun U hU => (cmp_i (x.2.2) (y.2.2) U).mono fun e w2 q => ⟨q.1, q.2 ▸ hU⟩) ?_
  simp only [Act.put, List.setIfInBounds_toArray, List.set_cons_succ, List.set_cons_zero]
  refine gq_val (by kernel_rfl) (some 15) rfl (.pointer (some ⟨g0, 0, none⟩)) (fun U hU => by kernel_rfl) ?_
  simp only [Act.put, List.setIfInBounds_toArray, List.set_cons_succ, List.set_cons_zero]
  refine gq_load (by kernel_rfl) (some 16) rfl 3 (.tmp 15) rfl ⟨g0, 0, none⟩ (.int .i64 x.1) (by kernel_rfl) (fun U hU => ld_f0 hU.1) ?_
  simp only [Act.put, List.setIfInBounds_toArray, List.set_cons_succ, List.set_cons_zero]
  refine gq_val (by kernel_rfl) (some 17) rfl (.pointer (some ⟨g0 + 1, 0, none⟩)) (fun U hU => by kernel_rfl) ?_
  simp only [Act.put, List.setIfInBounds_toArray, List.set_cons_succ, List.set_cons_zero]
  refine gq_load (by kernel_rfl) (some 18) rfl 3 (.tmp 17) rfl ⟨g0 + 1, 0, none⟩ (.int .i64 y.1) (by kernel_rfl) (fun U hU => ld_f0 hU.2.1) ?_
  simp only [Act.put, List.setIfInBounds_toArray, List.set_cons_succ, List.set_cons_zero]
  refine gq_call (by kernel_rfl) (some 19) rfl 32 #[.int .i64 x.1, .int .i64 y.1] (.int .i64 (cpI x.1 y.1)) (fun U hU => by kernel_rfl) (fun U hU => (cmp_i (x.1) (y.1) U).mono fun e w2 q => ⟨q.1, q.2 ▸ hU⟩) ?_
  simp only [Act.put, List.setIfInBounds_toArray, List.set_cons_succ, List.set_cons_zero]
  apply wpQuiet_nil
  intro V hV
  have HV := Lib.hid (HG.out.trans hV.2.2)
  clear hV h1 h2
  have CS : Cs (V.alloc (.cells #[.int .i64 (cpI y.2.1 x.2.1), .int .i64 (cpI x.2.2 y.2.2), .int .i64 (cpI x.1 y.1)] 3)) (some ⟨V.heap.size, 0, none⟩) (icells [cpI y.2.1 x.2.1, cpI x.2.2 y.2.2, cpI x.1 y.1]) := Cs.block (t := 3) (fr := (0, 0)) (heap_alloc_last V _)
  have CO := or_any [cpI y.2.1 x.2.1, cpI x.2.2 y.2.2, cpI x.1 y.1] V.heap.size 3 _ (by simp) CS
  rw [HF.out] at CO
  have HV2 := Lib.hid (HV.out.trans (Gd.alloc V (.cells #[.int .i64 (cpI y.2.1 x.2.1), .int .i64 (cpI x.2.2 y.2.2), .int .i64 (cpI x.1 y.1)] 3)))
  refine gw_build (by kernel_rfl) (some 20) rfl 25 3 #[(0, .tmp 9), (1, .tmp 14), (2, .tmp 19)] rfl #[(0, .int .i64 (cpI y.2.1 x.2.1)), (1, .int .i64 (cpI x.2.2 y.2.2)), (2, .int .i64 (cpI x.1 y.1))] (by kernel_rfl) (.slice (some ⟨V.heap.size, 0, none⟩) 3 3) _ (three_int _ _ _ V) ?_
  simp only [Act.put, List.setIfInBounds_toArray, List.set_cons_succ, List.set_cons_zero]
  generalize V.alloc (.cells #[.int .i64 (cpI y.2.1 x.2.1), .int .i64 (cpI x.2.2 y.2.2), .int .i64 (cpI x.1 y.1)] 3) = V2 at *
  refine gw_call (by kernel_rfl) (some 21) rfl 30 #[.slice (some ⟨V.heap.size, 0, none⟩) 3 3] (.int .i64 R) (fun w9 => V2 = w9) (by kernel_rfl) CO (fun w9 h9 => ?_)
  simp only [Act.put, List.setIfInBounds_toArray, List.set_cons_succ, List.set_cons_zero]
  subst h9
  refine gw_val (by kernel_rfl) (some 4) rfl (.int .i64 R) (by kernel_rfl) ?_
  simp only [Act.put, List.setIfInBounds_toArray, List.set_cons_succ, List.set_cons_zero]
  apply wpList_nil
  clear CS CO HF HV
  go_wp2_with fail
  go_ret
  exact ⟨rfl, HV2.out⟩
set_option maxRecDepth 100000 in
set_option maxHeartbeats 2000000 in
theorem before_it (x y : It) (w : World) : Calls Try.prog 11 #[.agg (itA x), .agg (itA y)] w fun e w' => e = .returned (.bool (bf x y)) ∧ Gd w w' := by
  have HC := Lib.hid (fun V => cmp_it x y V)
  have HL := Lib.hid (cpIt_lt x y)
  generalize cpIt x y = R at *
  generalize bf x y = B at *
  obtain ⟨hg, h1, h2⟩ := two_box x y w
  obtain ⟨g0, e0⟩ : ∃ g0, w.heap.size = g0 := ⟨_, rfl⟩
  rw [e0] at h1 h2
  go_enter Try.func11, Try.ntmps11
  go_upto_region 1 with fail
  change Code.wp _ _ _ _ ((w.alloc (.cells (itA x) 24)).alloc (.cells (itA y) 24))
  generalize (w.alloc (.cells (itA x) 24)).alloc (.cells (itA y) 24) = W at *
  clear e0
  have HG := Lib.hid hg
  clear hg
  apply wp_region_lit
  refine gw_load (by kernel_rfl) (some 5) rfl 24 (.tmp 2) rfl ⟨g0, 0, none⟩ (.agg (itA x)) (by kernel_rfl) (load_box h1) ?_
  simp only [Act.put, List.setIfInBounds_toArray, List.set_cons_succ, List.set_cons_zero]
  refine gw_load (by kernel_rfl) (some 6) rfl 24 (.tmp 3) rfl ⟨g0 + 1, 0, none⟩ (.agg (itA y)) (by kernel_rfl) (load_box h2) ?_
  simp only [Act.put, List.setIfInBounds_toArray, List.set_cons_succ, List.set_cons_zero]
  refine gw_call (by kernel_rfl) (some 7) rfl 25 #[.agg (itA x), .agg (itA y)] (.int .i64 R) (fun w9 => Gd W w9) (by kernel_rfl) (HC.out W) (fun V hV => ?_)
  simp only [Act.put, List.setIfInBounds_toArray, List.set_cons_succ, List.set_cons_zero]
  refine gw_val (by kernel_rfl) (some 8) rfl (.bool B) (by rw [← HL.out]; exact lss_i rfl R 0 (by kernel_rfl) (by kernel_rfl) _) ?_
  simp only [Act.put, List.setIfInBounds_toArray, List.set_cons_succ, List.set_cons_zero]
  refine gw_val (by kernel_rfl) (some 4) rfl (.bool B) (by kernel_rfl) ?_
  simp only [Act.put, List.setIfInBounds_toArray, List.set_cons_succ, List.set_cons_zero]
  apply wpList_nil
  have HV := Lib.hid (HG.out.trans hV)
  clear hV h1 h2 HC HL
  go_wp2_with fail
  go_ret
  exact ⟨rfl, HV.out⟩
set_option maxRecDepth 100000 in
set_option maxHeartbeats 2000000 in
theorem rbefore_it (x y : It) (w : World) : Calls Try.prog 12 #[.agg (itA x), .agg (itA y)] w fun e w' => e = .returned (.bool (bf x y)) ∧ Gd w w' := by
  have HB : Hid (bf x y = if x.2.1 = y.2.1 then (if x.2.2 = y.2.2 then decide (x.1 < y.1) else decide (x.2.2 < y.2.2)) else decide (y.2.1 < x.2.1)) := Lib.hid rfl
  generalize bf x y = B at *
  obtain ⟨hg, h1, h2⟩ := two_box x y w
  obtain ⟨g0, e0⟩ : ∃ g0, w.heap.size = g0 := ⟨_, rfl⟩
  rw [e0] at h1 h2
  go_enter Try.func12, Try.ntmps12
  go_upto_region 1 with fail
  change Code.wp _ _ _ _ ((w.alloc (.cells (itA x) 24)).alloc (.cells (itA y) 24))
  generalize (w.alloc (.cells (itA x) 24)).alloc (.cells (itA y) 24) = W at *
  clear e0
  have HG := Lib.hid hg
  clear hg
  by_cases e1 : x.2.1 = y.2.1
  · have HB1 : Hid (B = if x.2.2 = y.2.2 then decide (x.1 < y.1) else decide (x.2.2 < y.2.2)) := Lib.hid (by rw [HB.out, if_pos e1])
    have t1 : (x.2.1 != y.2.1) = false := by simp [e1]
    have HT1 := Lib.hid t1
    clear t1 e1
    apply wp_region_lit
    refine gw_val (by kernel_rfl) (some 5) rfl (.pointer (some ⟨g0, 1, none⟩)) (by kernel_rfl) ?_
    simp only [Act.put, List.setIfInBounds_toArray, List.set_cons_succ, List.set_cons_zero]
    refine gw_load (by kernel_rfl) (some 6) rfl 22 (.tmp 5) rfl ⟨g0, 1, none⟩ (.int .u64 x.2.1) (by kernel_rfl) (ld_f1 h1) ?_
    simp only [Act.put, List.setIfInBounds_toArray, List.set_cons_succ, List.set_cons_zero]
    refine gw_val (by kernel_rfl) (some 7) rfl (.pointer (some ⟨g0 + 1, 1, none⟩)) (by kernel_rfl) ?_
    simp only [Act.put, List.setIfInBounds_toArray, List.set_cons_succ, List.set_cons_zero]
    refine gw_load (by kernel_rfl) (some 8) rfl 22 (.tmp 7) rfl ⟨g0 + 1, 1, none⟩ (.int .u64 y.2.1) (by kernel_rfl) (ld_f1 h2) ?_
    simp only [Act.put, List.setIfInBounds_toArray, List.set_cons_succ, List.set_cons_zero]
    refine gw_val (by kernel_rfl) (some 9) rfl (.bool false) (by rw [← HT1.out]; exact ne_u rfl x.2.1 y.2.1 (by kernel_rfl) (by kernel_rfl) _) ?_
    simp only [Act.put, List.setIfInBounds_toArray, List.set_cons_succ, List.set_cons_zero]
    apply wpList_nil
    go_upto_region 3 with fail
    by_cases e2 : x.2.2 = y.2.2
    · have HB2 : Hid (B = decide (x.1 < y.1)) := Lib.hid (by rw [HB1.out, if_pos e2])
      have t2 : (x.2.2 != y.2.2) = false := by simp [e2]
      have HT2 := Lib.hid t2
      clear t2 e2
      apply wp_region_lit
      refine gw_val (by kernel_rfl) (some 15) rfl (.pointer (some ⟨g0, 2, none⟩)) (by kernel_rfl) ?_
      simp only [Act.put, List.setIfInBounds_toArray, List.set_cons_succ, List.set_cons_zero]
      refine gw_load (by kernel_rfl) (some 16) rfl 3 (.tmp 15) rfl ⟨g0, 2, none⟩ (.int .i64 x.2.2) (by kernel_rfl) (ld_f2 h1) ?_
      simp only [Act.put, List.setIfInBounds_toArray, List.set_cons_succ, List.set_cons_zero]
      refine gw_val (by kernel_rfl) (some 17) rfl (.pointer (some ⟨g0 + 1, 2, none⟩)) (by kernel_rfl) ?_
      simp only [Act.put, List.setIfInBounds_toArray, List.set_cons_succ, List.set_cons_zero]
      refine gw_load (by kernel_rfl) (some 18) rfl 3 (.tmp 17) rfl ⟨g0 + 1, 2, none⟩ (.int .i64 y.2.2) (by kernel_rfl) (ld_f2 h2) ?_
      simp only [Act.put, List.setIfInBounds_toArray, List.set_cons_succ, List.set_cons_zero]
      refine gw_val (by kernel_rfl) (some 19) rfl (.bool false) (by rw [← HT2.out]; exact ne_i rfl x.2.2 y.2.2 (by kernel_rfl) (by kernel_rfl) _) ?_
      simp only [Act.put, List.setIfInBounds_toArray, List.set_cons_succ, List.set_cons_zero]
      apply wpList_nil
      go_upto_region 5 with fail
      apply wp_region_lit
      refine gw_val (by kernel_rfl) (some 25) rfl (.pointer (some ⟨g0, 0, none⟩)) (by kernel_rfl) ?_
      simp only [Act.put, List.setIfInBounds_toArray, List.set_cons_succ, List.set_cons_zero]
      refine gw_load (by kernel_rfl) (some 26) rfl 3 (.tmp 25) rfl ⟨g0, 0, none⟩ (.int .i64 x.1) (by kernel_rfl) (ld_f0 h1) ?_
      simp only [Act.put, List.setIfInBounds_toArray, List.set_cons_succ, List.set_cons_zero]
      refine gw_val (by kernel_rfl) (some 27) rfl (.pointer (some ⟨g0 + 1, 0, none⟩)) (by kernel_rfl) ?_
      simp only [Act.put, List.setIfInBounds_toArray, List.set_cons_succ, List.set_cons_zero]
      refine gw_load (by kernel_rfl) (some 28) rfl 3 (.tmp 27) rfl ⟨g0 + 1, 0, none⟩ (.int .i64 y.1) (by kernel_rfl) (ld_f0 h2) ?_
      simp only [Act.put, List.setIfInBounds_toArray, List.set_cons_succ, List.set_cons_zero]
      refine gw_val (by kernel_rfl) (some 29) rfl (.bool B) (by rw [HB2.out]; exact lss_i rfl x.1 y.1 (by kernel_rfl) (by kernel_rfl) _) ?_
      simp only [Act.put, List.setIfInBounds_toArray, List.set_cons_succ, List.set_cons_zero]
      refine gw_val (by kernel_rfl) (some 4) rfl (.bool B) (by kernel_rfl) ?_
      simp only [Act.put, List.setIfInBounds_toArray, List.set_cons_succ, List.set_cons_zero]
      apply wpList_nil
      clear h1 h2
      go_wp2_with fail
      go_ret
      exact ⟨rfl, HG.out⟩
    · have HB2 : Hid (B = decide (x.2.2 < y.2.2)) := Lib.hid (by rw [HB1.out, if_neg e2])
      have t2 : (x.2.2 != y.2.2) = true := by simp [e2]
      have HT2 := Lib.hid t2
      clear t2 e2
      apply wp_region_lit
      refine gw_val (by kernel_rfl) (some 15) rfl (.pointer (some ⟨g0, 2, none⟩)) (by kernel_rfl) ?_
      simp only [Act.put, List.setIfInBounds_toArray, List.set_cons_succ, List.set_cons_zero]
      refine gw_load (by kernel_rfl) (some 16) rfl 3 (.tmp 15) rfl ⟨g0, 2, none⟩ (.int .i64 x.2.2) (by kernel_rfl) (ld_f2 h1) ?_
      simp only [Act.put, List.setIfInBounds_toArray, List.set_cons_succ, List.set_cons_zero]
      refine gw_val (by kernel_rfl) (some 17) rfl (.pointer (some ⟨g0 + 1, 2, none⟩)) (by kernel_rfl) ?_
      simp only [Act.put, List.setIfInBounds_toArray, List.set_cons_succ, List.set_cons_zero]
      refine gw_load (by kernel_rfl) (some 18) rfl 3 (.tmp 17) rfl ⟨g0 + 1, 2, none⟩ (.int .i64 y.2.2) (by kernel_rfl) (ld_f2 h2) ?_
      simp only [Act.put, List.setIfInBounds_toArray, List.set_cons_succ, List.set_cons_zero]
      refine gw_val (by kernel_rfl) (some 19) rfl (.bool true) (by rw [← HT2.out]; exact ne_i rfl x.2.2 y.2.2 (by kernel_rfl) (by kernel_rfl) _) ?_
      simp only [Act.put, List.setIfInBounds_toArray, List.set_cons_succ, List.set_cons_zero]
      apply wpList_nil
      go_upto_region 4 with fail
      apply wp_region_lit
      refine gw_val (by kernel_rfl) (some 20) rfl (.pointer (some ⟨g0, 2, none⟩)) (by kernel_rfl) ?_
      simp only [Act.put, List.setIfInBounds_toArray, List.set_cons_succ, List.set_cons_zero]
      refine gw_load (by kernel_rfl) (some 21) rfl 3 (.tmp 20) rfl ⟨g0, 2, none⟩ (.int .i64 x.2.2) (by kernel_rfl) (ld_f2 h1) ?_
      simp only [Act.put, List.setIfInBounds_toArray, List.set_cons_succ, List.set_cons_zero]
      refine gw_val (by kernel_rfl) (some 22) rfl (.pointer (some ⟨g0 + 1, 2, none⟩)) (by kernel_rfl) ?_
      simp only [Act.put, List.setIfInBounds_toArray, List.set_cons_succ, List.set_cons_zero]
      refine gw_load (by kernel_rfl) (some 23) rfl 3 (.tmp 22) rfl ⟨g0 + 1, 2, none⟩ (.int .i64 y.2.2) (by kernel_rfl) (ld_f2 h2) ?_
      simp only [Act.put, List.setIfInBounds_toArray, List.set_cons_succ, List.set_cons_zero]
      refine gw_val (by kernel_rfl) (some 24) rfl (.bool B) (by rw [HB2.out]; exact lss_i rfl x.2.2 y.2.2 (by kernel_rfl) (by kernel_rfl) _) ?_
      simp only [Act.put, List.setIfInBounds_toArray, List.set_cons_succ, List.set_cons_zero]
      refine gw_val (by kernel_rfl) (some 4) rfl (.bool B) (by kernel_rfl) ?_
      simp only [Act.put, List.setIfInBounds_toArray, List.set_cons_succ, List.set_cons_zero]
      apply wpList_nil
      clear h1 h2
      go_wp2_with fail
      go_ret
      exact ⟨rfl, HG.out⟩
  · have HB1 : Hid (B = decide (y.2.1 < x.2.1)) := Lib.hid (by rw [HB.out, if_neg e1])
    have t1 : (x.2.1 != y.2.1) = true := by simp [e1]
    have HT1 := Lib.hid t1
    clear t1 e1
    apply wp_region_lit
    refine gw_val (by kernel_rfl) (some 5) rfl (.pointer (some ⟨g0, 1, none⟩)) (by kernel_rfl) ?_
    simp only [Act.put, List.setIfInBounds_toArray, List.set_cons_succ, List.set_cons_zero]
    refine gw_load (by kernel_rfl) (some 6) rfl 22 (.tmp 5) rfl ⟨g0, 1, none⟩ (.int .u64 x.2.1) (by kernel_rfl) (ld_f1 h1) ?_
    simp only [Act.put, List.setIfInBounds_toArray, List.set_cons_succ, List.set_cons_zero]
    refine gw_val (by kernel_rfl) (some 7) rfl (.pointer (some ⟨g0 + 1, 1, none⟩)) (by kernel_rfl) ?_
    simp only [Act.put, List.setIfInBounds_toArray, List.set_cons_succ, List.set_cons_zero]
    refine gw_load (by kernel_rfl) (some 8) rfl 22 (.tmp 7) rfl ⟨g0 + 1, 1, none⟩ (.int .u64 y.2.1) (by kernel_rfl) (ld_f1 h2) ?_
    simp only [Act.put, List.setIfInBounds_toArray, List.set_cons_succ, List.set_cons_zero]
    refine gw_val (by kernel_rfl) (some 9) rfl (.bool true) (by rw [← HT1.out]; exact ne_u rfl x.2.1 y.2.1 (by kernel_rfl) (by kernel_rfl) _) ?_
    simp only [Act.put, List.setIfInBounds_toArray, List.set_cons_succ, List.set_cons_zero]
    apply wpList_nil
    go_upto_region 2 with fail
    apply wp_region_lit
    refine gw_val (by kernel_rfl) (some 10) rfl (.pointer (some ⟨g0, 1, none⟩)) (by kernel_rfl) ?_
    simp only [Act.put, List.setIfInBounds_toArray, List.set_cons_succ, List.set_cons_zero]
    refine gw_load (by kernel_rfl) (some 11) rfl 22 (.tmp 10) rfl ⟨g0, 1, none⟩ (.int .u64 x.2.1) (by kernel_rfl) (ld_f1 h1) ?_
    simp only [Act.put, List.setIfInBounds_toArray, List.set_cons_succ, List.set_cons_zero]
    refine gw_val (by kernel_rfl) (some 12) rfl (.pointer (some ⟨g0 + 1, 1, none⟩)) (by kernel_rfl) ?_
    simp only [Act.put, List.setIfInBounds_toArray, List.set_cons_succ, List.set_cons_zero]
    refine gw_load (by kernel_rfl) (some 13) rfl 22 (.tmp 12) rfl ⟨g0 + 1, 1, none⟩ (.int .u64 y.2.1) (by kernel_rfl) (ld_f1 h2) ?_
    simp only [Act.put, List.setIfInBounds_toArray, List.set_cons_succ, List.set_cons_zero]
    refine gw_val (by kernel_rfl) (some 14) rfl (.bool B) (by rw [HB1.out]; exact gtr_u rfl x.2.1 y.2.1 (by kernel_rfl) (by kernel_rfl) _) ?_
    simp only [Act.put, List.setIfInBounds_toArray, List.set_cons_succ, List.set_cons_zero]
    refine gw_val (by kernel_rfl) (some 4) rfl (.bool B) (by kernel_rfl) ?_
    simp only [Act.put, List.setIfInBounds_toArray, List.set_cons_succ, List.set_cons_zero]
    apply wpList_nil
    clear h1 h2
    go_wp2_with fail
    go_ret
    exact ⟨rfl, HG.out⟩
end Go.Proofs.Ytepdibnbnhkpnaa
