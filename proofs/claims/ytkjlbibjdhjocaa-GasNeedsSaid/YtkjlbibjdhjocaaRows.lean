/-
  No cell of these rows narrows 'for every input' (looked for: loops, veiled, ifaces, maps, wideKeys, modest, calm, conditions, laid).
  DERIVED. THE GIVEN ROWS OF THIS SEAT. 5 by the template 'for every input the law returns true; each argument reads behind the call as it read before'; 0 by the template 'total and deterministic' (their statements: YtkjlbibjdhjocaaTotals.lean).
  GIVEN WITH THE SEED: the statements are not yours to turn. If you find one false, say at which input.
  Laid BY PROGRAM, IN A SANDBOX (cutbox-rows.mjs): the forced cells as the released guide's own fill.sh prints them over the translation 52abe19379258372… (all of the seat's roots in one cut). By AI agents, Wed Nov 11 2026. No macro, syntax, notation, axiom, sorry.
-/
import Derived.Test.YtkjlbibjdhjocaaChecked
import GoSem.Claim
import GoSem.ClaimJoined
import GoSem.ClaimMapViews
import Derived.JoinedTies
import Derived.KernelRfl
namespace Go.Proofs.Ytkjlbibjdhjocaa
/- THE CELL 'sum', in the pinned program and in every row, IS THE sha256 OF THE DUMP (.gsa) THAT YtkjlbibjdhjocaaProg.lean LOADS. Nothing in Lean hashes anything: it is a label: what it is worth is what the hold of that sum in a sandbox is worth. -/
noncomputable def Try.pinned : Pinned := { name := "ytkjlbibjdhjocaa", sum := "52abe19379258372b263d6a1948b5537c42a5dd599cd522f01d6866b0be7020d", checked := Try.checked }
namespace Rows
def none {H : Type} : Left H := { results := [], args := [] }

/-- 'mempoollaw12.GasUses': WHATEVER THE INPUT: true; the input reads as it did. -/
def gasUsesSpec : ChangeSpec := { name := "gasUses", fn := fun _ => fun
  | [d1, d2] => { results := [.lit (.bool true)], args := [d1, d2] }
  | _ => none }
def gasUsesRow : OpenClaim := { program := "ytkjlbibjdhjocaa", sum := "52abe19379258372b263d6a1948b5537c42a5dd599cd522f01d6866b0be7020d", func := "mempool/mempoollaw12.GasUses", spec := "gasUses", named := ["math/bits.divideError", "math/bits.overflowError"], apart := false }
def GasUsesSaid : Prop := gasUsesRow.holds Try.pinned (OpenSpec.ofChange gasUsesSpec)

/-- ITS FALSE NEIGHBOUR: 'it returns false'. Refute it at one input. -/
def gasUsesWrong : ChangeSpec := { name := "gasUses", fn := fun _ => fun
  | [d1, d2] => { results := [.lit (.bool false)], args := [d1, d2] }
  | _ => none }
def GasUsesWrongFalsely : Prop := gasUsesRow.holds Try.pinned (OpenSpec.ofChange gasUsesWrong)

/-- 'mempoollaw12.GasNeeds': WHATEVER THE INPUT: true; the input reads as it did. -/
def gasNeedsSpec : ChangeSpec := { name := "gasNeeds", fn := fun _ => fun
  | [d1, d2, d3] => { results := [.lit (.bool true)], args := [d1, d2, d3] }
  | _ => none }
def gasNeedsRow : OpenClaim := { program := "ytkjlbibjdhjocaa", sum := "52abe19379258372b263d6a1948b5537c42a5dd599cd522f01d6866b0be7020d", func := "mempool/mempoollaw12.GasNeeds", spec := "gasNeeds", named := ["math/bits.divideError", "math/bits.overflowError"], apart := false }
def GasNeedsSaid : Prop := gasNeedsRow.holds Try.pinned (OpenSpec.ofChange gasNeedsSpec)

/-- ITS FALSE NEIGHBOUR: 'it returns false'. Refute it at one input. -/
def gasNeedsWrong : ChangeSpec := { name := "gasNeeds", fn := fun _ => fun
  | [d1, d2, d3] => { results := [.lit (.bool false)], args := [d1, d2, d3] }
  | _ => none }
def GasNeedsWrongFalsely : Prop := gasNeedsRow.holds Try.pinned (OpenSpec.ofChange gasNeedsWrong)

/-- 'mempoollaw12.GasPriorities': WHATEVER THE INPUT: true; the input reads as it did. -/
def gasPrioritiesSpec : ChangeSpec := { name := "gasPriorities", fn := fun _ => fun
  | [d1, d2, d3] => { results := [.lit (.bool true)], args := [d1, d2, d3] }
  | _ => none }
def gasPrioritiesRow : OpenClaim := { program := "ytkjlbibjdhjocaa", sum := "52abe19379258372b263d6a1948b5537c42a5dd599cd522f01d6866b0be7020d", func := "mempool/mempoollaw12.GasPriorities", spec := "gasPriorities", named := ["math/bits.divideError", "math/bits.overflowError"], apart := false }
def GasPrioritiesSaid : Prop := gasPrioritiesRow.holds Try.pinned (OpenSpec.ofChange gasPrioritiesSpec)

/-- ITS FALSE NEIGHBOUR: 'it returns false'. Refute it at one input. -/
def gasPrioritiesWrong : ChangeSpec := { name := "gasPriorities", fn := fun _ => fun
  | [d1, d2, d3] => { results := [.lit (.bool false)], args := [d1, d2, d3] }
  | _ => none }
def GasPrioritiesWrongFalsely : Prop := gasPrioritiesRow.holds Try.pinned (OpenSpec.ofChange gasPrioritiesWrong)

/-- 'mempoollaw12.GasMonotone': WHATEVER THE INPUT: true; the input reads as it did. -/
def gasMonotoneSpec : ChangeSpec := { name := "gasMonotone", fn := fun _ => fun
  | [d1, d2, d3] => { results := [.lit (.bool true)], args := [d1, d2, d3] }
  | _ => none }
def gasMonotoneRow : OpenClaim := { program := "ytkjlbibjdhjocaa", sum := "52abe19379258372b263d6a1948b5537c42a5dd599cd522f01d6866b0be7020d", func := "mempool/mempoollaw12.GasMonotone", spec := "gasMonotone", named := ["math/bits.divideError", "math/bits.overflowError"], apart := false }
def GasMonotoneSaid : Prop := gasMonotoneRow.holds Try.pinned (OpenSpec.ofChange gasMonotoneSpec)

/-- ITS FALSE NEIGHBOUR: 'it returns false'. Refute it at one input. -/
def gasMonotoneWrong : ChangeSpec := { name := "gasMonotone", fn := fun _ => fun
  | [d1, d2, d3] => { results := [.lit (.bool false)], args := [d1, d2, d3] }
  | _ => none }
def GasMonotoneWrongFalsely : Prop := gasMonotoneRow.holds Try.pinned (OpenSpec.ofChange gasMonotoneWrong)

/-- 'mempoollaw12.GasExact': WHATEVER THE INPUT: true; the input reads as it did. -/
def gasExactSpec : ChangeSpec := { name := "gasExact", fn := fun _ => fun
  | [d1, d2] => { results := [.lit (.bool true)], args := [d1, d2] }
  | _ => none }
def gasExactRow : OpenClaim := { program := "ytkjlbibjdhjocaa", sum := "52abe19379258372b263d6a1948b5537c42a5dd599cd522f01d6866b0be7020d", func := "mempool/mempoollaw12.GasExact", spec := "gasExact", named := ["math/bits.divideError", "math/bits.overflowError"], apart := false }
def GasExactSaid : Prop := gasExactRow.holds Try.pinned (OpenSpec.ofChange gasExactSpec)

/-- ITS FALSE NEIGHBOUR: 'it returns false'. Refute it at one input. -/
def gasExactWrong : ChangeSpec := { name := "gasExact", fn := fun _ => fun
  | [d1, d2] => { results := [.lit (.bool false)], args := [d1, d2] }
  | _ => none }
def GasExactWrongFalsely : Prop := gasExactRow.holds Try.pinned (OpenSpec.ofChange gasExactWrong)

/- THE SECOND FORM. 'bulk': how many values and letters a reading holds, each counted each time it is reached (what is shared counts as often as it is met; a slice's spare places count too). A statement '..UptoSaid' is the law's where the arguments, and the package variables that the reading takes, are together of bulk at most 1048576: NARROWER than '..Said'. Prove '..Said' where nothing that the law and all that it calls make is longer than what came in: it says more and counts as full. Else prove '..UptoSaid'. A law counts once. -/
mutual
def uptoBulk {H : Type} : DataW H → Nat
  | .lit (.string bytes) => bytes.length + 1
  | .lit _ => 1
  | .nil => 1
  | .ptr d => uptoBulk d + 1
  | .slice elems spare => uptoBulkAll elems + uptoBulkAll spare + 1
  | .agg parts => uptoBulkAll parts + 1
  | .iface _ d => uptoBulk d + 1
  | .map entries => uptoBulkEntries entries + 1
  | .held _ => 1
def uptoBulkAll {H : Type} : List (DataW H) → Nat
  | [] => 0
  | d :: r => uptoBulk d + uptoBulkAll r
def uptoBulkEntries {H : Type} : List (Lit × DataW H) → Nat
  | [] => 0
  | x :: r => uptoBulkEntry x + uptoBulkEntries r
def uptoBulkEntry {H : Type} : Lit × DataW H → Nat
  | (.string bytes, d) => bytes.length + uptoBulk d + 1
  | (_, d) => uptoBulk d + 1
 end
def uptoSmall : (H : Type) → List (DataW H) → Bool := fun _ ds => decide (uptoBulkAll ds ≤ 1048576)
def OpenSpec.upto (s : _root_.Go.ChangeSpec) : _root_.Go.OpenSpec := { _root_.Go.OpenSpec.ofChange s with cond := some uptoSmall }

/-- 'mempoollaw12.GasUses', WHERE WHAT IT READS IS OF BULK AT MOST 1048576: true; the input reads as it did. -/
def gasUsesUptoRow : OpenClaim := { program := "ytkjlbibjdhjocaa", sum := "52abe19379258372b263d6a1948b5537c42a5dd599cd522f01d6866b0be7020d", func := "mempool/mempoollaw12.GasUses", spec := "gasUses", named := ["math/bits.divideError", "math/bits.overflowError"], apart := false, narrowed := true }
def GasUsesUptoSaid : Prop := gasUsesUptoRow.holds Try.pinned (OpenSpec.upto gasUsesSpec)

/-- 'mempoollaw12.GasNeeds', WHERE WHAT IT READS IS OF BULK AT MOST 1048576: true; the input reads as it did. -/
def gasNeedsUptoRow : OpenClaim := { program := "ytkjlbibjdhjocaa", sum := "52abe19379258372b263d6a1948b5537c42a5dd599cd522f01d6866b0be7020d", func := "mempool/mempoollaw12.GasNeeds", spec := "gasNeeds", named := ["math/bits.divideError", "math/bits.overflowError"], apart := false, narrowed := true }
def GasNeedsUptoSaid : Prop := gasNeedsUptoRow.holds Try.pinned (OpenSpec.upto gasNeedsSpec)

/-- 'mempoollaw12.GasPriorities', WHERE WHAT IT READS IS OF BULK AT MOST 1048576: true; the input reads as it did. -/
def gasPrioritiesUptoRow : OpenClaim := { program := "ytkjlbibjdhjocaa", sum := "52abe19379258372b263d6a1948b5537c42a5dd599cd522f01d6866b0be7020d", func := "mempool/mempoollaw12.GasPriorities", spec := "gasPriorities", named := ["math/bits.divideError", "math/bits.overflowError"], apart := false, narrowed := true }
def GasPrioritiesUptoSaid : Prop := gasPrioritiesUptoRow.holds Try.pinned (OpenSpec.upto gasPrioritiesSpec)

/-- 'mempoollaw12.GasMonotone', WHERE WHAT IT READS IS OF BULK AT MOST 1048576: true; the input reads as it did. -/
def gasMonotoneUptoRow : OpenClaim := { program := "ytkjlbibjdhjocaa", sum := "52abe19379258372b263d6a1948b5537c42a5dd599cd522f01d6866b0be7020d", func := "mempool/mempoollaw12.GasMonotone", spec := "gasMonotone", named := ["math/bits.divideError", "math/bits.overflowError"], apart := false, narrowed := true }
def GasMonotoneUptoSaid : Prop := gasMonotoneUptoRow.holds Try.pinned (OpenSpec.upto gasMonotoneSpec)

/-- 'mempoollaw12.GasExact', WHERE WHAT IT READS IS OF BULK AT MOST 1048576: true; the input reads as it did. -/
def gasExactUptoRow : OpenClaim := { program := "ytkjlbibjdhjocaa", sum := "52abe19379258372b263d6a1948b5537c42a5dd599cd522f01d6866b0be7020d", func := "mempool/mempoollaw12.GasExact", spec := "gasExact", named := ["math/bits.divideError", "math/bits.overflowError"], apart := false, narrowed := true }
def GasExactUptoSaid : Prop := gasExactUptoRow.holds Try.pinned (OpenSpec.upto gasExactSpec)

end Rows
end Go.Proofs.Ytkjlbibjdhjocaa
