/-
  The contracts of the functions on lists of fields: big, SameFields; and of near at 0.
  Conditions: as typed.
-/
import Derived.Test.YtaaeepanelmgnaaWH3
import Derived.Test.YtaaeepanelmgnaaWG8
import Derived.Deep.QuietTactic
import Derived.BigQuiet
namespace Go.Proofs.Ytaaeepanelmgnaa
set_option maxRecDepth 100000
open Go.RowKit

/-- A slice of fields at a reads as the list ps: each field's cells, and its bytes. -/
def Fs (w : World) (a : Option Addr) (ps : List (Fld × Value)) : Prop :=
  ∀ i p, ps[i]? = some p → ∃ b off ba bc, a = some ⟨b, off, none⟩ ∧ p.2 = .slice ba p.1.bytes.length bc ∧ Sl w ba bc p.1.bytes ∧ Box w b (off + i * 4) p.1.num p.1.kind p.1.val ba p.1.bytes.length bc

/-- The number of fields and of their bytes. -/
def bulkF (ps : List (Fld × Value)) : Nat := ps.length + (ps.map fun p => p.1.bytes.length).sum

theorem sum_take (l : List Nat) (k : Nat) (h : k < l.length) : (l.take (k + 1)).sum = (l.take k).sum + l[k] := by
  rw [List.take_succ_eq_append_getElem h, List.sum_append]
  simp
theorem sum_take_le (l : List Nat) (k : Nat) : (l.take k).sum ≤ l.sum := by
  have h : l.sum = (l.take k).sum + (l.drop k).sum := by rw [← List.sum_append, List.take_append_drop]
  omega

end Go.Proofs.Ytaaeepanelmgnaa
