/-
  The contract of the reference's constants.
-/
import Derived.Test.YtgkckblcekbafaaGS
import Derived.Test.YtgkckblcekbafaaSS1
import Derived.Deep.WholeRow
import Derived.Deep.MidRow
import Derived.Great.BuildSlice
import Derived.KernelRfl
namespace Go.Proofs.Ytgkckblcekbafaa
set_option maxRecDepth 100000
open Go.RowKit

/-- The rows of words. -/
abbrev w32s (L : List Int) : Array Value := (L.map (Value.int .u32)).toArray

set_option maxHeartbeats 1000000 in
theorem constants_any (w : World) :
    Calls Try.prog 40 #[] w fun e w' => e = .returned (.agg (w32s ks)) ∧ w' = w.alloc (.cells (w32s ks) 80) := by
  go_enter Try.func40, Try.ntmps40
  apply wp_seq_k
  intro K hK
  apply wp_region_lit
  refine run_to rfl (some 0) rfl (.pointer (some ⟨w.heap.size, 0, none⟩)) (w.alloc (.cells (List.replicate 64 (.int .u32 0)).toArray 80)) (by kernel_rfl) ?_
  apply wpList_nil
  apply hK
  apply wp_seq_k
  intro K2 hK2
  apply wp_region_lit
  refine run_to rfl (some 1) rfl (.agg (w32s ks)) (w.alloc (.cells (List.replicate 64 (.int .u32 0)).toArray 80)) (by kernel_rfl) ?_
  apply wpList_store_new (w := w) (ty := 80) (x := .tmp 0) (y := .tmp 1) (c := (List.replicate 64 (.int .u32 0)).toArray) (c' := w32s ks)
  case hgd => rfl
  case ho => rfl
  case hx => rfl
  case hy => rfl
  case hi => kernel_rfl
  case hz => kernel_rfl
  case h1 => kernel_rfl
  apply wpList_nil
  apply hK2
  apply wp_ret
  have hrow := heap_alloc_last w (.cells (w32s ks) 80)
  refine bodyPost_ret (v := .agg (w32s ks)) ?_ rfl ⟨rfl, rfl⟩
  · refine results_cell_row (fn := Try.f40) (p := 0) (ty := 80) rfl _ _ w.heap.size 80 (w32s ks) (0, 0) (.array 64 65) ?_ hrow ?_ ?_ ?_
    · rfl
    · kernel_rfl
    · rfl
    · kernel_rfl
end Go.Proofs.Ytgkckblcekbafaa
