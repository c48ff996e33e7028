/-
  What the program's functions are held to: a heap in memory by any representation that lies in blocks of its own.
-/
import Derived.Test.YtepdibnbnhkpnaaHT
namespace Go.Proofs.Ytepdibnbnhkpnaa
open Go.RowKit
set_option linter.unusedSimpArgs false
set_option linter.unusedVariables false

abbrev HRep := World → Nat → (Nat → Prop) → List It → Prop
/-- The heap has now these items, in S' and new blocks. -/
def UpdH (R : HRep) (g B : Nat) (S : Nat → Prop) (M : List It) (w w' : World) : Prop := ∃ S', R w' g S' M ∧ (∀ k, S' k → S k ∨ w.heap.size ≤ k) ∧ ButS B S w w'
/-- THE PROGRAM'S FUNCTIONS, by their numbers: New, Push, Pop, Peek, Remove, Sorted, Len, Before. The items of a heap: a sorted list. -/
structure HeapC (R : HRep) (fN fP fO fK fR fS fL fB : FuncId) : Prop where
  inn : ∀ {w g S M}, R w g S M → ∀ k, S k → k < w.heap.size
  keep : ∀ {w w' g S M}, R w g S M → (∀ k, S k → w'.heap[k]? = w.heap[k]?) → R w' g S M
  new : ∀ w, Calls Try.prog fN #[] w fun e w' => ∃ g S, e = .returned (.pointer (some ⟨g, 0, none⟩)) ∧ R w' g S [] ∧ (∀ k, S k → w.heap.size ≤ k) ∧ Below w.heap.size w w'
  push : ∀ w g S M x B, R w g S M → Wh M → M.length ≤ 80000 → (∀ j, S j → B ≤ j) → B ≤ w.heap.size → Calls Try.prog fP #[.pointer (some ⟨g, 0, none⟩), .agg (itA x)] w fun e w' => e = .returned (.bool (insM M x).2) ∧ UpdH R g B S (insM M x).1 w w'
  pop : ∀ w g S M B, R w g S M → Wh M → M.length ≤ 80000 → (∀ j, S j → B ≤ j) → B ≤ w.heap.size → Calls Try.prog fO #[.pointer (some ⟨g, 0, none⟩)] w fun e w' => e = .returned (.tuple #[.agg (itA (ita M 0)), .bool (decide (0 < M.length))]) ∧ UpdH R g B S M.tail w w'
  remove : ∀ w g S M k B, R w g S M → Wh M → M.length ≤ 80000 → (∀ j, S j → B ≤ j) → B ≤ w.heap.size → Calls Try.prog fR #[.pointer (some ⟨g, 0, none⟩), .int .i64 k] w fun e w' => e = .returned (.bool (takM M k).2) ∧ UpdH R g B S (takM M k).1 w w'
  peek : ∀ w g S M, R w g S M → Wh M → M.length ≤ 80000 → Calls Try.prog fK #[.pointer (some ⟨g, 0, none⟩)] w fun e w' => e = .returned (.tuple #[.agg (itA (ita M 0)), .bool (decide (0 < M.length))]) ∧ Below w.heap.size w w'
  sorted : ∀ w g S M, R w g S M → Wh M → M.length ≤ 80000 → Calls Try.prog fS #[.pointer (some ⟨g, 0, none⟩)] w fun e w' => ∃ a c, e = .returned (.slice a M.length c) ∧ Cs w' a (itc M) ∧ M.length ≤ c ∧ Below w.heap.size w w'
  len : ∀ w g S M, R w g S M → Wh M → M.length ≤ 80000 → Calls Try.prog fL #[.pointer (some ⟨g, 0, none⟩)] w fun e w' => e = .returned (.int .i64 M.length) ∧ Below w.heap.size w w'
  before : ∀ w x y, Calls Try.prog fB #[.agg (itA x), .agg (itA y)] w fun e w' => e = .returned (.bool (bf x y)) ∧ Below w.heap.size w w'
/-- WHAT THE METHODS OF A NIL HEAP ARE HELD TO. -/
structure NilHC (fP fO fK fR fS fL : FuncId) : Prop where
  push : ∀ w x, Calls Try.prog fP #[.pointer none, .agg (itA x)] w fun e w' => e = .returned (.bool false) ∧ Below w.heap.size w w'
  pop : ∀ w, Calls Try.prog fO #[.pointer none] w fun e w' => e = .returned (.tuple #[.agg (itA zIt), .bool false]) ∧ Below w.heap.size w w'
  peek : ∀ w, Calls Try.prog fK #[.pointer none] w fun e w' => e = .returned (.tuple #[.agg (itA zIt), .bool false]) ∧ Below w.heap.size w w'
  remove : ∀ w k, Calls Try.prog fR #[.pointer none, .int .i64 k] w fun e w' => e = .returned (.bool false) ∧ Below w.heap.size w w'
  sorted : ∀ w, Calls Try.prog fS #[.pointer none] w fun e w' => ∃ a c, e = .returned (.slice a 0 c) ∧ Below w.heap.size w w'
  len : ∀ w, Calls Try.prog fL #[.pointer none] w fun e w' => e = .returned (.int .i64 0) ∧ Below w.heap.size w w'
end Go.Proofs.Ytepdibnbnhkpnaa
