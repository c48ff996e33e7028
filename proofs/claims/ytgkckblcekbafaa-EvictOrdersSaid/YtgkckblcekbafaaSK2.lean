/-
  The contract of the program's words.
-/
import Derived.Test.YtgkckblcekbafaaSK1
import Derived.Test.YtgkckblcekbafaaSSA2
namespace Go.Proofs.Ytgkckblcekbafaa
set_option maxRecDepth 100000
open Go.RowKit

/-- 'a[i]' of an array by value. -/
theorem run_index_agg {P : Program} (t e n : Nat) (k : IntKind) (cs : Array Value) (i : Nat) (c : Value) (w : World) (h : P.underlying t = some (.array n e)) (hi : i < n)
    (hs : (sizeOf e).run P w = .ok 1 w) (ha : (isAgg e).run P w = .ok false w) (hc : cs[i]? = some c) : (Instr.index t (.agg cs) (.int k (i : Int))).run P w = .ok c w := by
  have hn : ¬ n ≤ i := by omega
  simp [Instr.index, run_underlying h, asIntOf, hs, part, ha, hc, go_sem]
  intro h'
  exact absurd h' hn

/-- The rows of bytes. -/
abbrev w8s (L : List Int) : Array Value := (L.map (Value.int .u8)).toArray
/-- Bytes lie in a block of their own. -/
def Ab (w : World) (g : Nat) (t : TypeId) (L : List Int) : Prop := w.heap[g]? = some (.cells (w8s L) t (0, 0))

theorem Ab.lt {w : World} {g : Nat} {t : TypeId} {L : List Int} (h : Ab w g t L) : g < w.heap.size := (Array.getElem?_eq_some_iff.1 h).1
theorem Ab.below {w w' : World} {g B : Nat} {t : TypeId} {L : List Int} (h : Ab w g t L) (hg : g < B) (hb : Below B w w') : Ab w' g t L := by
  unfold Ab
  rw [hb.block g hg]
  exact h
theorem Ab.alloc {w : World} {g : Nat} {t : TypeId} {L : List Int} (h : Ab w g t L) (o : Obj) : Ab (w.alloc o) g t L := by
  unfold Ab
  rw [Below.heap_alloc w o g h.lt]
  exact h

end Go.Proofs.Ytgkckblcekbafaa
