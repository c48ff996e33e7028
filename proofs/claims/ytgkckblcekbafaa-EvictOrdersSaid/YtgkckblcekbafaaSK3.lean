/-
  The contract of the program's compress. Condition: the two variables hold their tables.
-/
import Derived.Test.YtgkckblcekbafaaSK2
namespace Go.Proofs.Ytgkckblcekbafaa
set_option maxRecDepth 100000
open Go.RowKit

/-- The eight words of a state. -/
def E8 (s : List Int) (a b c d e f g h : Int) : Prop := s = [a, b, c, d, e, f, g, h]
theorem eight (s : List Int) (hs : s.length = 8) : ∃ a b c d e f g h, s = [a, b, c, d, e, f, g, h] := by
  match s, hs with
  | [a, b, c, d, e, f, g, h], _ => exact ⟨a, b, c, d, e, f, g, h, rfl⟩

end Go.Proofs.Ytgkckblcekbafaa
