/-
  Only blocks of a set, and new ones, are written.
-/
import Derived.Test.YtjblfpifhbmfoaaCB
namespace Go.Proofs.Ytjblfpifhbmfoaa
open Go.RowKit

/-- Only blocks of S, and new ones, are written; all of S lies from B on. -/
def ButS (B : Nat) (S : Nat → Prop) (w w' : World) : Prop := Below B w w' ∧ ∀ k, k < w.heap.size → ¬ S k → w'.heap[k]? = w.heap[k]?
theorem ButS.of_below {B : Nat} {S : Nat → Prop} {w w' : World} (h : Below w.heap.size w w') (hB : B ≤ w.heap.size) : ButS B S w w' := ⟨h.mono hB, fun k hk _ => h.block k hk⟩
theorem Bx.buts {w w' : World} {k t B : Nat} {S : Nat → Prop} {cs : Array Value} (h : Bx w k cs t) (hb : ButS B S w w') (hn : ¬ S k) : Bx w' k cs t := (hb.2 k h.lt hn).trans h
theorem Cs.buts {w w' : World} {B : Nat} {S : Nat → Prop} {a : Option Addr} {cs : List Value} (h : Cs w a cs) (hb : ButS B S w w') (hn : ∀ x, a = some x → ¬ S x.block) : Cs w' a cs := fun j v hj => by
  obtain ⟨b, off, e, hlt, hc⟩ := h j v hj
  refine ⟨b, off, e, Nat.lt_of_lt_of_le hlt hb.1.size, ?_⟩
  rw [← hc]
  unfold World.cell?
  rw [hb.2 b hlt (hn _ e)]
end Go.Proofs.Ytjblfpifhbmfoaa
