/-
  The contract of the reference's constants.
-/
import Derived.Test.YtbhnbcpllhefgaaDoorSS1
import Derived.Deep.WholeRow
import Derived.Deep.MidRow
import Derived.Great.BuildSlice
import Derived.KernelRfl
namespace Go.Proofs.YtbhnbcpllhefgaaDoor
open Go.RowKit

/-- An operation with a known result. -/
theorem run_to {P : Program} {ops : Array Oper} {rest : List Oper} {o : Oper} {a : Act} {w : World} {Q : Exit → Act → World → Prop} (hgd : o.guard = none) (d : Option Tmp) (hd : o.dst = d)
    (v : Value) (w2 : World) (hr : (execOp a.eval o).run P w = .ok (.value v) w2) (k : wpList P ops Q rest (a.put d v) w2) : wpList P ops Q (o :: rest) a w := by
  rw [← hd] at k
  apply wpList_plain hgd
  intro K hK
  rw [Oper.wp, hr, Oper.upon_value]
  exact hK _ _ k
/-- The end of a function without results. -/
theorem end_none {P : Program} {fn : Func} {R : Ending → World → Prop} {a : Act} {w : World} (h : fn.results = #[]) (hd : a.defers = []) (hR : R (.returned (.tuple #[])) w) : bodyPost P fn R .normal a w :=
  bodyPost_end (results_none h _ _ _) hd hR

/-- A whole array goes into the block that was made last: at a plain region's list. -/
theorem wpList_store_new {P : Program} {ops : Array Oper} {rest : List Oper} {op : Oper} {a : Act} {w : World} {Q : Exit → Act → World → Prop} (hgd : op.guard = none) (ty : TypeId) (x y : Operand) (ho : op.op = .store ty x y)
    (c c' : Array Value) (hx : a.eval x = .pointer (some ⟨w.heap.size, 0, none⟩)) (hy : a.eval y = .agg c')
    (hi : (P.info? ty).map (·.size) = some c'.size) (hz : c.size = c'.size) (h1 : c'.all (·.oneCell') = true)
    (h : wpList P ops Q rest (a.put op.dst undef) (w.alloc (.cells c' ty))) : wpList P ops Q (op :: rest) a (w.alloc (.cells c ty)) :=
  wpList_plain hgd fun K hK => by
    unfold Oper.wp execOp
    simp only [ho, hx, hy, Sem.run_bind, run_storeAt_new w ty c c' hi hz h1]
    exact hK _ _ h

/-- The rows of words. -/
abbrev w32s (L : List Int) : Array Value := (L.map (Value.int .u32)).toArray

set_option maxHeartbeats 1000000 in
theorem constants_any (w : World) :
    Calls Tryd.prog 35 #[] w fun e w' => e = .returned (.agg (w32s ks)) ∧ w' = w.alloc (.cells (w32s ks) 58) := by
  go_enter Tryd.func35, Tryd.ntmps35
  apply wp_seq_k
  intro K hK
  apply wp_region_lit
  refine run_to rfl (some 0) rfl (.pointer (some ⟨w.heap.size, 0, none⟩)) (w.alloc (.cells (List.replicate 64 (.int .u32 0)).toArray 58)) (by kernel_rfl) ?_
  apply wpList_nil
  apply hK
  apply wp_seq_k
  intro K2 hK2
  apply wp_region_lit
  refine run_to rfl (some 1) rfl (.agg (w32s ks)) (w.alloc (.cells (List.replicate 64 (.int .u32 0)).toArray 58)) (by kernel_rfl) ?_
  apply wpList_store_new (w := w) (ty := 58) (x := .tmp 0) (y := .tmp 1) (c := (List.replicate 64 (.int .u32 0)).toArray) (c' := w32s ks)
  case hgd => rfl
  case ho => rfl
  case hx => rfl
  case hy => rfl
  case hi => kernel_rfl
  case hz => kernel_rfl
  case h1 => kernel_rfl
  apply wpList_nil
  apply hK2
  apply wp_ret
  have hrow := heap_alloc_last w (.cells (w32s ks) 58)
  refine bodyPost_ret (v := .agg (w32s ks)) ?_ rfl ⟨rfl, rfl⟩
  · refine results_cell_row (fn := Tryd.f35) (p := 0) (ty := 58) rfl _ _ w.heap.size 58 (w32s ks) (0, 0) (.array 64 49) ?_ hrow ?_ ?_ ?_
    · rfl
    · kernel_rfl
    · rfl
    · kernel_rfl
end Go.Proofs.YtbhnbcpllhefgaaDoor
