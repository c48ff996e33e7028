/-
  No cell of these rows narrows 'for every input' (looked for: loops, veiled, ifaces, maps, wideKeys, modest, calm, conditions, laid).
  DERIVED. THE GIVEN ROWS OF THIS SEAT. 6 by the template 'for every input the law returns true; each argument reads behind the call as it read before'; 0 by the template 'total and deterministic' (their statements: YtaaeepanelmgnaaTotals.lean).
  GIVEN WITH THE SEED: the statements are not yours to turn. If you find one false, say at which input.
  Laid BY PROGRAM, IN A SANDBOX (cutbox-rows.mjs): the forced cells as the released guide's own fill.sh prints them over the translation 6eb0feec5c38c567… (all of the seat's roots in one cut). By AI agents, Wed Nov 11 2026. No macro, syntax, notation, axiom, sorry.
-/
import Derived.Test.YtaaeepanelmgnaaChecked
import GoSem.Claim
import GoSem.ClaimJoined
import GoSem.ClaimMapViews
import Derived.JoinedTies
import Derived.KernelRfl
namespace Go.Proofs.Ytaaeepanelmgnaa
/- THE CELL 'sum', in the pinned program and in every row, IS THE sha256 OF THE DUMP (.gsa) THAT YtaaeepanelmgnaaProg.lean LOADS. Nothing in Lean hashes anything: it is a label: what it is worth is what the hold of that sum in a sandbox is worth. -/
noncomputable def Try.pinned : Pinned := { name := "ytaaeepanelmgnaa", sum := "6eb0feec5c38c567a38ef8c50690efd0f1c6be9302cc260038f924854323883f", checked := Try.checked }
namespace Rows
def none {H : Type} : Left H := { results := [], args := [] }

/-- 'mempoollaw10.TxWords': WHATEVER THE INPUT: true; the input reads as it did. -/
def txWordsSpec : ChangeSpec := { name := "txWords", fn := fun _ => fun
  | [d1, d2, d3] => { results := [.lit (.bool true)], args := [d1, d2, d3] }
  | _ => none }
def txWordsRow : OpenClaim := { program := "ytaaeepanelmgnaa", sum := "6eb0feec5c38c567a38ef8c50690efd0f1c6be9302cc260038f924854323883f", func := "mempool/mempoollaw10.TxWords", spec := "txWords", apart := false }
def TxWordsSaid : Prop := txWordsRow.holds Try.pinned (OpenSpec.ofChange txWordsSpec)

/-- ITS FALSE NEIGHBOUR: 'it returns false'. Refute it at one input. -/
def txWordsWrong : ChangeSpec := { name := "txWords", fn := fun _ => fun
  | [d1, d2, d3] => { results := [.lit (.bool false)], args := [d1, d2, d3] }
  | _ => none }
def TxWordsWrongFalsely : Prop := txWordsRow.holds Try.pinned (OpenSpec.ofChange txWordsWrong)

/-- 'mempoollaw10.TxValidates': WHATEVER THE INPUT: true; the input reads as it did. -/
def txValidatesSpec : ChangeSpec := { name := "txValidates", fn := fun _ => fun
  | [d1, d2] => { results := [.lit (.bool true)], args := [d1, d2] }
  | _ => none }
def txValidatesRow : OpenClaim := { program := "ytaaeepanelmgnaa", sum := "6eb0feec5c38c567a38ef8c50690efd0f1c6be9302cc260038f924854323883f", func := "mempool/mempoollaw10.TxValidates", spec := "txValidates", apart := false }
def TxValidatesSaid : Prop := txValidatesRow.holds Try.pinned (OpenSpec.ofChange txValidatesSpec)

/-- ITS FALSE NEIGHBOUR: 'it returns false'. Refute it at one input. -/
def txValidatesWrong : ChangeSpec := { name := "txValidates", fn := fun _ => fun
  | [d1, d2] => { results := [.lit (.bool false)], args := [d1, d2] }
  | _ => none }
def TxValidatesWrongFalsely : Prop := txValidatesRow.holds Try.pinned (OpenSpec.ofChange txValidatesWrong)

/-- 'mempoollaw10.TxEncodes': WHATEVER THE INPUT: true; the input reads as it did. -/
def txEncodesSpec : ChangeSpec := { name := "txEncodes", fn := fun _ => fun
  | [d1, d2] => { results := [.lit (.bool true)], args := [d1, d2] }
  | _ => none }
def txEncodesRow : OpenClaim := { program := "ytaaeepanelmgnaa", sum := "6eb0feec5c38c567a38ef8c50690efd0f1c6be9302cc260038f924854323883f", func := "mempool/mempoollaw10.TxEncodes", spec := "txEncodes", apart := false }
def TxEncodesSaid : Prop := txEncodesRow.holds Try.pinned (OpenSpec.ofChange txEncodesSpec)

/-- ITS FALSE NEIGHBOUR: 'it returns false'. Refute it at one input. -/
def txEncodesWrong : ChangeSpec := { name := "txEncodes", fn := fun _ => fun
  | [d1, d2] => { results := [.lit (.bool false)], args := [d1, d2] }
  | _ => none }
def TxEncodesWrongFalsely : Prop := txEncodesRow.holds Try.pinned (OpenSpec.ofChange txEncodesWrong)

/-- 'mempoollaw10.TxDecodes': WHATEVER THE INPUT: true; the input reads as it did. -/
def txDecodesSpec : ChangeSpec := { name := "txDecodes", fn := fun _ => fun
  | [d1, d2, d3, d4, d5] => { results := [.lit (.bool true)], args := [d1, d2, d3, d4, d5] }
  | _ => none }
def txDecodesRow : OpenClaim := { program := "ytaaeepanelmgnaa", sum := "6eb0feec5c38c567a38ef8c50690efd0f1c6be9302cc260038f924854323883f", func := "mempool/mempoollaw10.TxDecodes", spec := "txDecodes", apart := false }
def TxDecodesSaid : Prop := txDecodesRow.holds Try.pinned (OpenSpec.ofChange txDecodesSpec)

/-- ITS FALSE NEIGHBOUR: 'it returns false'. Refute it at one input. -/
def txDecodesWrong : ChangeSpec := { name := "txDecodes", fn := fun _ => fun
  | [d1, d2, d3, d4, d5] => { results := [.lit (.bool false)], args := [d1, d2, d3, d4, d5] }
  | _ => none }
def TxDecodesWrongFalsely : Prop := txDecodesRow.holds Try.pinned (OpenSpec.ofChange txDecodesWrong)

/-- 'mempoollaw10.TxFields': WHATEVER THE INPUT: true; the input reads as it did. -/
def txFieldsSpec : ChangeSpec := { name := "txFields", fn := fun _ => fun
  | [d1, d2, d3, d4] => { results := [.lit (.bool true)], args := [d1, d2, d3, d4] }
  | _ => none }
def txFieldsRow : OpenClaim := { program := "ytaaeepanelmgnaa", sum := "6eb0feec5c38c567a38ef8c50690efd0f1c6be9302cc260038f924854323883f", func := "mempool/mempoollaw10.TxFields", spec := "txFields", apart := false }
def TxFieldsSaid : Prop := txFieldsRow.holds Try.pinned (OpenSpec.ofChange txFieldsSpec)

/-- ITS FALSE NEIGHBOUR: 'it returns false'. Refute it at one input. -/
def txFieldsWrong : ChangeSpec := { name := "txFields", fn := fun _ => fun
  | [d1, d2, d3, d4] => { results := [.lit (.bool false)], args := [d1, d2, d3, d4] }
  | _ => none }
def TxFieldsWrongFalsely : Prop := txFieldsRow.holds Try.pinned (OpenSpec.ofChange txFieldsWrong)

/-- 'mempoollaw10.TxLimits': WHATEVER THE INPUT: true; the input reads as it did. -/
def txLimitsSpec : ChangeSpec := { name := "txLimits", fn := fun _ => fun
  | [d1, d2, d3] => { results := [.lit (.bool true)], args := [d1, d2, d3] }
  | _ => none }
def txLimitsRow : OpenClaim := { program := "ytaaeepanelmgnaa", sum := "6eb0feec5c38c567a38ef8c50690efd0f1c6be9302cc260038f924854323883f", func := "mempool/mempoollaw10.TxLimits", spec := "txLimits", apart := false }
def TxLimitsSaid : Prop := txLimitsRow.holds Try.pinned (OpenSpec.ofChange txLimitsSpec)

/-- ITS FALSE NEIGHBOUR: 'it returns false'. Refute it at one input. -/
def txLimitsWrong : ChangeSpec := { name := "txLimits", fn := fun _ => fun
  | [d1, d2, d3] => { results := [.lit (.bool false)], args := [d1, d2, d3] }
  | _ => none }
def TxLimitsWrongFalsely : Prop := txLimitsRow.holds Try.pinned (OpenSpec.ofChange txLimitsWrong)

/- THE SECOND FORM. 'bulk': how many values and letters a reading holds, each counted each time it is reached (what is shared counts as often as it is met; a slice's spare places count too). A statement '..UptoSaid' is the law's where the arguments, and the package variables that the reading takes, are together of bulk at most 1048576: NARROWER than '..Said'. Prove '..Said' where nothing that the law and all that it calls make is longer than what came in: it says more and counts as full. Else prove '..UptoSaid'. A law counts once. -/
mutual
def uptoBulk {H : Type} : DataW H → Nat
  | .lit (.string bytes) => bytes.length + 1
  | .lit _ => 1
  | .nil => 1
  | .ptr d => uptoBulk d + 1
  | .slice elems spare => uptoBulkAll elems + uptoBulkAll spare + 1
  | .agg parts => uptoBulkAll parts + 1
  | .iface _ d => uptoBulk d + 1
  | .map entries => uptoBulkEntries entries + 1
  | .held _ => 1
def uptoBulkAll {H : Type} : List (DataW H) → Nat
  | [] => 0
  | d :: r => uptoBulk d + uptoBulkAll r
def uptoBulkEntries {H : Type} : List (Lit × DataW H) → Nat
  | [] => 0
  | x :: r => uptoBulkEntry x + uptoBulkEntries r
def uptoBulkEntry {H : Type} : Lit × DataW H → Nat
  | (.string bytes, d) => bytes.length + uptoBulk d + 1
  | (_, d) => uptoBulk d + 1
 end
def uptoSmall : (H : Type) → List (DataW H) → Bool := fun _ ds => decide (uptoBulkAll ds ≤ 1048576)
def OpenSpec.upto (s : _root_.Go.ChangeSpec) : _root_.Go.OpenSpec := { _root_.Go.OpenSpec.ofChange s with cond := some uptoSmall }

/-- 'mempoollaw10.TxWords', WHERE WHAT IT READS IS OF BULK AT MOST 1048576: true; the input reads as it did. -/
def txWordsUptoRow : OpenClaim := { program := "ytaaeepanelmgnaa", sum := "6eb0feec5c38c567a38ef8c50690efd0f1c6be9302cc260038f924854323883f", func := "mempool/mempoollaw10.TxWords", spec := "txWords", apart := false, narrowed := true }
def TxWordsUptoSaid : Prop := txWordsUptoRow.holds Try.pinned (OpenSpec.upto txWordsSpec)

/-- 'mempoollaw10.TxValidates', WHERE WHAT IT READS IS OF BULK AT MOST 1048576: true; the input reads as it did. -/
def txValidatesUptoRow : OpenClaim := { program := "ytaaeepanelmgnaa", sum := "6eb0feec5c38c567a38ef8c50690efd0f1c6be9302cc260038f924854323883f", func := "mempool/mempoollaw10.TxValidates", spec := "txValidates", apart := false, narrowed := true }
def TxValidatesUptoSaid : Prop := txValidatesUptoRow.holds Try.pinned (OpenSpec.upto txValidatesSpec)

/-- 'mempoollaw10.TxEncodes', WHERE WHAT IT READS IS OF BULK AT MOST 1048576: true; the input reads as it did. -/
def txEncodesUptoRow : OpenClaim := { program := "ytaaeepanelmgnaa", sum := "6eb0feec5c38c567a38ef8c50690efd0f1c6be9302cc260038f924854323883f", func := "mempool/mempoollaw10.TxEncodes", spec := "txEncodes", apart := false, narrowed := true }
def TxEncodesUptoSaid : Prop := txEncodesUptoRow.holds Try.pinned (OpenSpec.upto txEncodesSpec)

/-- 'mempoollaw10.TxDecodes', WHERE WHAT IT READS IS OF BULK AT MOST 1048576: true; the input reads as it did. -/
def txDecodesUptoRow : OpenClaim := { program := "ytaaeepanelmgnaa", sum := "6eb0feec5c38c567a38ef8c50690efd0f1c6be9302cc260038f924854323883f", func := "mempool/mempoollaw10.TxDecodes", spec := "txDecodes", apart := false, narrowed := true }
def TxDecodesUptoSaid : Prop := txDecodesUptoRow.holds Try.pinned (OpenSpec.upto txDecodesSpec)

/-- 'mempoollaw10.TxFields', WHERE WHAT IT READS IS OF BULK AT MOST 1048576: true; the input reads as it did. -/
def txFieldsUptoRow : OpenClaim := { program := "ytaaeepanelmgnaa", sum := "6eb0feec5c38c567a38ef8c50690efd0f1c6be9302cc260038f924854323883f", func := "mempool/mempoollaw10.TxFields", spec := "txFields", apart := false, narrowed := true }
def TxFieldsUptoSaid : Prop := txFieldsUptoRow.holds Try.pinned (OpenSpec.upto txFieldsSpec)

/-- 'mempoollaw10.TxLimits', WHERE WHAT IT READS IS OF BULK AT MOST 1048576: true; the input reads as it did. -/
def txLimitsUptoRow : OpenClaim := { program := "ytaaeepanelmgnaa", sum := "6eb0feec5c38c567a38ef8c50690efd0f1c6be9302cc260038f924854323883f", func := "mempool/mempoollaw10.TxLimits", spec := "txLimits", apart := false, narrowed := true }
def TxLimitsUptoSaid : Prop := txLimitsUptoRow.holds Try.pinned (OpenSpec.upto txLimitsSpec)

end Rows
end Go.Proofs.Ytaaeepanelmgnaa
