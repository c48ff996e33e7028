/-
  The contract of the code's Compare.
-/
import Derived.Test.YtapojahoaglgaaaDoorKC1
namespace Go.Proofs.YtapojahoaglgaaaDoor
open Go.RowKit

theorem slice_key (g : Nat) (w : World) : (Instr.sliceAt 25 (.pointer (some ⟨g, 0, none⟩)) none none none).run Tryd.prog w = .ok (.slice (some ⟨g, 0, none⟩) 32 32) w := by
  kernel_rfl
/-- 'k[:]' yields v. -/
theorem wpQ_slice_all {P : Program} {C : World → Prop} {ops : Array Oper} {Q : Act → Prop} {a : Act} {op : Oper} {rest : List Oper} (hgd : op.guard = none) (ty : TypeId) (x : Operand) (ho : op.op = .slice ty x none none none)
    (vx v : Value) (hx : a.eval x = vx) (hs : ∀ w, C w → (Instr.sliceAt ty vx none none none).run P w = .ok v w)
    (hK : wpQuiet P ops C Q rest (a.put op.dst v)) : wpQuiet P ops C Q (op :: rest) a := by
  refine wpQ_val hgd v (fun w hC => ?_) hK
  unfold execOp
  simp only [ho, hx, Option.map_none, Sem.run_bind, hs w hC]
  rfl

set_option maxRecDepth 100000 in
set_option maxHeartbeats 4000000 in
theorem cmp_any (A B : List Int) (w : World) (hA : A.length = 32) (hB : B.length = 32) (hA8 : ∀ x, x ∈ A → W8 x) (hB8 : ∀ x, x ∈ B → W8 x) :
    Calls Tryd.prog 10 #[.agg (w8s A), .agg (w8s B)] w fun e w' => e = .returned (.int .i64 (cmpL A B)) ∧ Below w.heap.size w w' := by
  go_enter Tryd.func10, Tryd.ntmps10
  go_upto_region 1 with fail
  have h1 : Ab ((w.alloc (.cells (w8s A) 25)).alloc (.cells (w8s B) 25)) w.heap.size 25 A := Ab.alloc (heap_alloc_last w _) _
  have h2 : Ab ((w.alloc (.cells (w8s A) 25)).alloc (.cells (w8s B) 25)) (w.heap.size + 1) 25 B := by
    have := heap_alloc_last (w.alloc (.cells (w8s A) 25)) (.cells (w8s B) 25)
    simpa [Ab] using this
  have h3 : Below w.heap.size w ((w.alloc (.cells (w8s A) 25)).alloc (.cells (w8s B) 25)) := ((Below.refl _ w).alloc (by simp) _).alloc (by simp) _
  generalize (w.alloc (.cells (w8s A) 25)).alloc (.cells (w8s B) 25) = W at *
  have HAB : Hid (A.length = B.length) := Lib.hid (hA.trans hB.symm)
  have CB := fun (v : World) (k1 : Ab v w.heap.size 25 A) (k2 : Ab v (w.heap.size + 1) 25 B) => bcmp_any (some ⟨w.heap.size, 0, none⟩) (some ⟨w.heap.size + 1, 0, none⟩) 32 32 A B v k1.sl k2.sl HAB.out hA8 hB8
  rw [hA, hB] at CB
  obtain ⟨q, hq⟩ : ∃ q, q = cmpL A B := ⟨_, rfl⟩
  rw [← hq] at CB
  have HQ := Lib.hid hq
  clear hq
  refine wp_region_class (C := fun w' => Ab w' w.heap.size 25 A ∧ Ab w' (w.heap.size + 1) 25 B ∧ Below w.heap.size w w') (by kernel_rfl) (by kernel_rfl) ⟨h1, h2, h3.drew⟩ ?_
  refine wpQ_slice_all rfl 25 (.tmp 2) rfl (.pointer (some ⟨w.heap.size, 0, none⟩)) (.slice (some ⟨w.heap.size, 0, none⟩) 32 32) (by kernel_rfl) (fun w' _ => slice_key _ w') ?_
  refine wpQ_slice_all rfl 25 (.tmp 3) rfl (.pointer (some ⟨w.heap.size + 1, 0, none⟩)) (.slice (some ⟨w.heap.size + 1, 0, none⟩) 32 32) (by kernel_rfl) (fun w' _ => slice_key _ w') ?_
  refine wpQ_call rfl 23 #[.slice (some ⟨w.heap.size, 0, none⟩) 32 32, .slice (some ⟨w.heap.size + 1, 0, none⟩) 32 32] (.int .i64 q) (fun w' _ => by kernel_rfl)
    (fun w' hC => (CB w' hC.1 hC.2.1).mono fun e w'' ⟨he, hw⟩ => by subst hw; exact ⟨he, hC⟩) ?_
  refine wpQ_val rfl (.int .i64 q) (fun w' _ => by kernel_rfl) ?_
  refine wpQuiet_nil ?_
  intro w' hC
  have HW := Lib.hid hC.2.2
  clear hC h1 h2 h3 CB
  simp only [Act.put, List.setIfInBounds_toArray, List.set_cons_succ, List.set_cons_zero]
  go_wp2_with fail
  go_ret
  exact ⟨by rw [← HQ.out]; rfl, HW.out⟩
end Go.Proofs.YtapojahoaglgaaaDoor
