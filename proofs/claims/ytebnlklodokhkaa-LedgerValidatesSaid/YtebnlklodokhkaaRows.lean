/-
  No cell of these rows narrows 'for every input' (looked for: loops, veiled, ifaces, maps, wideKeys, modest, calm, conditions, laid).
  DERIVED. THE GIVEN ROWS OF THIS SEAT. 5 by the template 'for every input the law returns true; each argument reads behind the call as it read before'; 0 by the template 'total and deterministic' (their statements: YtebnlklodokhkaaTotals.lean).
  GIVEN WITH THE SEED: the statements are not yours to turn. If you find one false, say at which input.
  Laid BY PROGRAM, IN A SANDBOX (cutbox-rows.mjs): the forced cells as the released guide's own fill.sh prints them over the translation 506e5c5c01bdd540… (all of the seat's roots in one cut). By AI agents, Wed Nov 11 2026. No macro, syntax, notation, axiom, sorry.
-/
import Derived.Test.YtebnlklodokhkaaChecked
import GoSem.Claim
import GoSem.ClaimJoined
import GoSem.ClaimMapViews
import Derived.JoinedTies
import Derived.KernelRfl
namespace Go.Proofs.Ytebnlklodokhkaa
/- THE CELL 'sum', in the pinned program and in every row, IS THE sha256 OF THE DUMP (.gsa) THAT YtebnlklodokhkaaProg.lean LOADS. Nothing in Lean hashes anything: it is a label: what it is worth is what the hold of that sum in a sandbox is worth. -/
noncomputable def Try.pinned : Pinned := { name := "ytebnlklodokhkaa", sum := "506e5c5c01bdd54031012e1adc64929ac4d34cff3042002e27e4ded2f96499ad", checked := Try.checked }
namespace Rows
def none {H : Type} : Left H := { results := [], args := [] }

/-- 'mempoollaw11.LedgerValidates': WHATEVER THE INPUT: true; the input reads as it did. -/
def ledgerValidatesSpec : ChangeSpec := { name := "ledgerValidates", fn := fun _ => fun
  | [d1, d2, d3, d4, d5] => { results := [.lit (.bool true)], args := [d1, d2, d3, d4, d5] }
  | _ => none }
def ledgerValidatesRow : OpenClaim := { program := "ytebnlklodokhkaa", sum := "506e5c5c01bdd54031012e1adc64929ac4d34cff3042002e27e4ded2f96499ad", func := "mempool/mempoollaw11.LedgerValidates", spec := "ledgerValidates", inPlace := ["internal/bytealg.abigen_runtime_cmpstring", "math/bits.Add64"], unfollowed := true, recurses := true, apart := false }
def LedgerValidatesSaid : Prop := ledgerValidatesRow.holds Try.pinned (OpenSpec.ofChange ledgerValidatesSpec)

/-- ITS FALSE NEIGHBOUR: 'it returns false'. Refute it at one input. -/
def ledgerValidatesWrong : ChangeSpec := { name := "ledgerValidates", fn := fun _ => fun
  | [d1, d2, d3, d4, d5] => { results := [.lit (.bool false)], args := [d1, d2, d3, d4, d5] }
  | _ => none }
def LedgerValidatesWrongFalsely : Prop := ledgerValidatesRow.holds Try.pinned (OpenSpec.ofChange ledgerValidatesWrong)

/-- 'mempoollaw11.LedgerBegins': WHATEVER THE INPUT: true; the input reads as it did. -/
def ledgerBeginsSpec : ChangeSpec := { name := "ledgerBegins", fn := fun _ => fun
  | [d1, d2, d3] => { results := [.lit (.bool true)], args := [d1, d2, d3] }
  | _ => none }
def ledgerBeginsRow : OpenClaim := { program := "ytebnlklodokhkaa", sum := "506e5c5c01bdd54031012e1adc64929ac4d34cff3042002e27e4ded2f96499ad", func := "mempool/mempoollaw11.LedgerBegins", spec := "ledgerBegins", inPlace := ["internal/bytealg.abigen_runtime_cmpstring", "math/bits.Add64"], unfollowed := true, recurses := true, apart := false }
def LedgerBeginsSaid : Prop := ledgerBeginsRow.holds Try.pinned (OpenSpec.ofChange ledgerBeginsSpec)

/-- ITS FALSE NEIGHBOUR: 'it returns false'. Refute it at one input. -/
def ledgerBeginsWrong : ChangeSpec := { name := "ledgerBegins", fn := fun _ => fun
  | [d1, d2, d3] => { results := [.lit (.bool false)], args := [d1, d2, d3] }
  | _ => none }
def LedgerBeginsWrongFalsely : Prop := ledgerBeginsRow.holds Try.pinned (OpenSpec.ofChange ledgerBeginsWrong)

/-- 'mempoollaw11.LedgerSets': WHATEVER THE INPUT: true; the input reads as it did. -/
def ledgerSetsSpec : ChangeSpec := { name := "ledgerSets", fn := fun _ => fun
  | [d1, d2, d3, d4] => { results := [.lit (.bool true)], args := [d1, d2, d3, d4] }
  | _ => none }
def ledgerSetsRow : OpenClaim := { program := "ytebnlklodokhkaa", sum := "506e5c5c01bdd54031012e1adc64929ac4d34cff3042002e27e4ded2f96499ad", func := "mempool/mempoollaw11.LedgerSets", spec := "ledgerSets", inPlace := ["internal/bytealg.abigen_runtime_cmpstring", "math/bits.Add64"], unfollowed := true, recurses := true, apart := false }
def LedgerSetsSaid : Prop := ledgerSetsRow.holds Try.pinned (OpenSpec.ofChange ledgerSetsSpec)

/-- ITS FALSE NEIGHBOUR: 'it returns false'. Refute it at one input. -/
def ledgerSetsWrong : ChangeSpec := { name := "ledgerSets", fn := fun _ => fun
  | [d1, d2, d3, d4] => { results := [.lit (.bool false)], args := [d1, d2, d3, d4] }
  | _ => none }
def LedgerSetsWrongFalsely : Prop := ledgerSetsRow.holds Try.pinned (OpenSpec.ofChange ledgerSetsWrong)

/-- 'mempoollaw11.LedgerGets': WHATEVER THE INPUT: true; the input reads as it did. -/
def ledgerGetsSpec : ChangeSpec := { name := "ledgerGets", fn := fun _ => fun
  | [d1, d2, d3] => { results := [.lit (.bool true)], args := [d1, d2, d3] }
  | _ => none }
def ledgerGetsRow : OpenClaim := { program := "ytebnlklodokhkaa", sum := "506e5c5c01bdd54031012e1adc64929ac4d34cff3042002e27e4ded2f96499ad", func := "mempool/mempoollaw11.LedgerGets", spec := "ledgerGets", inPlace := ["internal/bytealg.abigen_runtime_cmpstring", "math/bits.Add64"], unfollowed := true, recurses := true, apart := false }
def LedgerGetsSaid : Prop := ledgerGetsRow.holds Try.pinned (OpenSpec.ofChange ledgerGetsSpec)

/-- ITS FALSE NEIGHBOUR: 'it returns false'. Refute it at one input. -/
def ledgerGetsWrong : ChangeSpec := { name := "ledgerGets", fn := fun _ => fun
  | [d1, d2, d3] => { results := [.lit (.bool false)], args := [d1, d2, d3] }
  | _ => none }
def LedgerGetsWrongFalsely : Prop := ledgerGetsRow.holds Try.pinned (OpenSpec.ofChange ledgerGetsWrong)

/-- 'mempoollaw11.LedgerLimits': WHATEVER THE INPUT: true; the input reads as it did. -/
def ledgerLimitsSpec : ChangeSpec := { name := "ledgerLimits", fn := fun _ => fun
  | [d1, d2] => { results := [.lit (.bool true)], args := [d1, d2] }
  | _ => none }
def ledgerLimitsRow : OpenClaim := { program := "ytebnlklodokhkaa", sum := "506e5c5c01bdd54031012e1adc64929ac4d34cff3042002e27e4ded2f96499ad", func := "mempool/mempoollaw11.LedgerLimits", spec := "ledgerLimits", inPlace := ["internal/bytealg.abigen_runtime_cmpstring", "math/bits.Add64"], unfollowed := true, recurses := true, apart := false }
def LedgerLimitsSaid : Prop := ledgerLimitsRow.holds Try.pinned (OpenSpec.ofChange ledgerLimitsSpec)

/-- ITS FALSE NEIGHBOUR: 'it returns false'. Refute it at one input. -/
def ledgerLimitsWrong : ChangeSpec := { name := "ledgerLimits", fn := fun _ => fun
  | [d1, d2] => { results := [.lit (.bool false)], args := [d1, d2] }
  | _ => none }
def LedgerLimitsWrongFalsely : Prop := ledgerLimitsRow.holds Try.pinned (OpenSpec.ofChange ledgerLimitsWrong)

/- THE SECOND FORM. 'bulk': how many values and letters a reading holds, each counted each time it is reached (what is shared counts as often as it is met; a slice's spare places count too). A statement '..UptoSaid' is the law's where the arguments, and the package variables that the reading takes, are together of bulk at most 1048576: NARROWER than '..Said'. Prove '..Said' where nothing that the law and all that it calls make is longer than what came in: it says more and counts as full. Else prove '..UptoSaid'. A law counts once. -/
mutual
def uptoBulk {H : Type} : DataW H → Nat
  | .lit (.string bytes) => bytes.length + 1
  | .lit _ => 1
  | .nil => 1
  | .ptr d => uptoBulk d + 1
  | .slice elems spare => uptoBulkAll elems + uptoBulkAll spare + 1
  | .agg parts => uptoBulkAll parts + 1
  | .iface _ d => uptoBulk d + 1
  | .map entries => uptoBulkEntries entries + 1
  | .held _ => 1
def uptoBulkAll {H : Type} : List (DataW H) → Nat
  | [] => 0
  | d :: r => uptoBulk d + uptoBulkAll r
def uptoBulkEntries {H : Type} : List (Lit × DataW H) → Nat
  | [] => 0
  | x :: r => uptoBulkEntry x + uptoBulkEntries r
def uptoBulkEntry {H : Type} : Lit × DataW H → Nat
  | (.string bytes, d) => bytes.length + uptoBulk d + 1
  | (_, d) => uptoBulk d + 1
 end
def uptoSmall : (H : Type) → List (DataW H) → Bool := fun _ ds => decide (uptoBulkAll ds ≤ 1048576)
def OpenSpec.upto (s : _root_.Go.ChangeSpec) : _root_.Go.OpenSpec := { _root_.Go.OpenSpec.ofChange s with cond := some uptoSmall }

/-- 'mempoollaw11.LedgerValidates', WHERE WHAT IT READS IS OF BULK AT MOST 1048576: true; the input reads as it did. -/
def ledgerValidatesUptoRow : OpenClaim := { program := "ytebnlklodokhkaa", sum := "506e5c5c01bdd54031012e1adc64929ac4d34cff3042002e27e4ded2f96499ad", func := "mempool/mempoollaw11.LedgerValidates", spec := "ledgerValidates", inPlace := ["internal/bytealg.abigen_runtime_cmpstring", "math/bits.Add64"], unfollowed := true, recurses := true, apart := false, narrowed := true }
def LedgerValidatesUptoSaid : Prop := ledgerValidatesUptoRow.holds Try.pinned (OpenSpec.upto ledgerValidatesSpec)

/-- 'mempoollaw11.LedgerBegins', WHERE WHAT IT READS IS OF BULK AT MOST 1048576: true; the input reads as it did. -/
def ledgerBeginsUptoRow : OpenClaim := { program := "ytebnlklodokhkaa", sum := "506e5c5c01bdd54031012e1adc64929ac4d34cff3042002e27e4ded2f96499ad", func := "mempool/mempoollaw11.LedgerBegins", spec := "ledgerBegins", inPlace := ["internal/bytealg.abigen_runtime_cmpstring", "math/bits.Add64"], unfollowed := true, recurses := true, apart := false, narrowed := true }
def LedgerBeginsUptoSaid : Prop := ledgerBeginsUptoRow.holds Try.pinned (OpenSpec.upto ledgerBeginsSpec)

/-- 'mempoollaw11.LedgerSets', WHERE WHAT IT READS IS OF BULK AT MOST 1048576: true; the input reads as it did. -/
def ledgerSetsUptoRow : OpenClaim := { program := "ytebnlklodokhkaa", sum := "506e5c5c01bdd54031012e1adc64929ac4d34cff3042002e27e4ded2f96499ad", func := "mempool/mempoollaw11.LedgerSets", spec := "ledgerSets", inPlace := ["internal/bytealg.abigen_runtime_cmpstring", "math/bits.Add64"], unfollowed := true, recurses := true, apart := false, narrowed := true }
def LedgerSetsUptoSaid : Prop := ledgerSetsUptoRow.holds Try.pinned (OpenSpec.upto ledgerSetsSpec)

/-- 'mempoollaw11.LedgerGets', WHERE WHAT IT READS IS OF BULK AT MOST 1048576: true; the input reads as it did. -/
def ledgerGetsUptoRow : OpenClaim := { program := "ytebnlklodokhkaa", sum := "506e5c5c01bdd54031012e1adc64929ac4d34cff3042002e27e4ded2f96499ad", func := "mempool/mempoollaw11.LedgerGets", spec := "ledgerGets", inPlace := ["internal/bytealg.abigen_runtime_cmpstring", "math/bits.Add64"], unfollowed := true, recurses := true, apart := false, narrowed := true }
def LedgerGetsUptoSaid : Prop := ledgerGetsUptoRow.holds Try.pinned (OpenSpec.upto ledgerGetsSpec)

/-- 'mempoollaw11.LedgerLimits', WHERE WHAT IT READS IS OF BULK AT MOST 1048576: true; the input reads as it did. -/
def ledgerLimitsUptoRow : OpenClaim := { program := "ytebnlklodokhkaa", sum := "506e5c5c01bdd54031012e1adc64929ac4d34cff3042002e27e4ded2f96499ad", func := "mempool/mempoollaw11.LedgerLimits", spec := "ledgerLimits", inPlace := ["internal/bytealg.abigen_runtime_cmpstring", "math/bits.Add64"], unfollowed := true, recurses := true, apart := false, narrowed := true }
def LedgerLimitsUptoSaid : Prop := ledgerLimitsUptoRow.holds Try.pinned (OpenSpec.upto ledgerLimitsSpec)

end Rows
end Go.Proofs.Ytebnlklodokhkaa
