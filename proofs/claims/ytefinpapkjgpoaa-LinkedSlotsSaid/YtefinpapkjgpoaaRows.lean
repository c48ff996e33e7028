/-
  No cell of these rows narrows 'for every input' (looked for: loops, veiled, ifaces, maps, wideKeys, modest, calm, conditions, laid).
  DERIVED. THE GIVEN ROWS OF THIS SEAT. 5 by the template 'for every input the law returns true; each argument reads behind the call as it read before'; 0 by the template 'total and deterministic' (their statements: YtefinpapkjgpoaaTotals.lean).
  GIVEN WITH THE SEED: the statements are not yours to turn. If you find one false, say at which input.
  Laid BY PROGRAM, IN A SANDBOX (cutbox-rows.mjs): the forced cells as the released guide's own fill.sh prints them over the translation 44b6a7cc200f9ab0… (all of the seat's roots in one cut). By AI agents, Wed Nov 11 2026. No macro, syntax, notation, axiom, sorry.
-/
import Derived.Test.YtefinpapkjgpoaaChecked
import GoSem.Claim
import GoSem.ClaimJoined
import GoSem.ClaimMapViews
import Derived.JoinedTies
import Derived.KernelRfl
namespace Go.Proofs.Ytefinpapkjgpoaa
/- THE CELL 'sum', in the pinned program and in every row, IS THE sha256 OF THE DUMP (.gsa) THAT YtefinpapkjgpoaaProg.lean LOADS. Nothing in Lean hashes anything: it is a label: what it is worth is what the hold of that sum in a sandbox is worth. -/
noncomputable def Try.pinned : Pinned := { name := "ytefinpapkjgpoaa", sum := "44b6a7cc200f9ab01b96152e8c3434b716dd3f167ec284528eaddb0cccbb436b", checked := Try.checked }
namespace Rows
def none {H : Type} : Left H := { results := [], args := [] }

/-- 'mempoollaw7.LinkedPlays': WHATEVER THE INPUT: true; the input reads as it did. -/
def linkedPlaysSpec : ChangeSpec := { name := "linkedPlays", fn := fun _ => fun
  | [d] => { results := [.lit (.bool true)], args := [d] }
  | _ => none }
def linkedPlaysRow : OpenClaim := { program := "ytefinpapkjgpoaa", sum := "44b6a7cc200f9ab01b96152e8c3434b716dd3f167ec284528eaddb0cccbb436b", func := "mempool/mempoollaw7.LinkedPlays", spec := "linkedPlays", apart := false }
def LinkedPlaysSaid : Prop := linkedPlaysRow.holds Try.pinned (OpenSpec.ofChange linkedPlaysSpec)

/-- ITS FALSE NEIGHBOUR: 'it returns false'. Refute it at one input. -/
def linkedPlaysWrong : ChangeSpec := { name := "linkedPlays", fn := fun _ => fun
  | [d] => { results := [.lit (.bool false)], args := [d] }
  | _ => none }
def LinkedPlaysWrongFalsely : Prop := linkedPlaysRow.holds Try.pinned (OpenSpec.ofChange linkedPlaysWrong)

/-- 'mempoollaw7.LinkedReads': WHATEVER THE INPUT: true; the input reads as it did. -/
def linkedReadsSpec : ChangeSpec := { name := "linkedReads", fn := fun _ => fun
  | [d1, d2] => { results := [.lit (.bool true)], args := [d1, d2] }
  | _ => none }
def linkedReadsRow : OpenClaim := { program := "ytefinpapkjgpoaa", sum := "44b6a7cc200f9ab01b96152e8c3434b716dd3f167ec284528eaddb0cccbb436b", func := "mempool/mempoollaw7.LinkedReads", spec := "linkedReads", apart := false }
def LinkedReadsSaid : Prop := linkedReadsRow.holds Try.pinned (OpenSpec.ofChange linkedReadsSpec)

/-- ITS FALSE NEIGHBOUR: 'it returns false'. Refute it at one input. -/
def linkedReadsWrong : ChangeSpec := { name := "linkedReads", fn := fun _ => fun
  | [d1, d2] => { results := [.lit (.bool false)], args := [d1, d2] }
  | _ => none }
def LinkedReadsWrongFalsely : Prop := linkedReadsRow.holds Try.pinned (OpenSpec.ofChange linkedReadsWrong)

/-- 'mempoollaw7.LinkedWalks': WHATEVER THE INPUT: true; the input reads as it did. -/
def linkedWalksSpec : ChangeSpec := { name := "linkedWalks", fn := fun _ => fun
  | [d] => { results := [.lit (.bool true)], args := [d] }
  | _ => none }
def linkedWalksRow : OpenClaim := { program := "ytefinpapkjgpoaa", sum := "44b6a7cc200f9ab01b96152e8c3434b716dd3f167ec284528eaddb0cccbb436b", func := "mempool/mempoollaw7.LinkedWalks", spec := "linkedWalks", apart := false }
def LinkedWalksSaid : Prop := linkedWalksRow.holds Try.pinned (OpenSpec.ofChange linkedWalksSpec)

/-- ITS FALSE NEIGHBOUR: 'it returns false'. Refute it at one input. -/
def linkedWalksWrong : ChangeSpec := { name := "linkedWalks", fn := fun _ => fun
  | [d] => { results := [.lit (.bool false)], args := [d] }
  | _ => none }
def LinkedWalksWrongFalsely : Prop := linkedWalksRow.holds Try.pinned (OpenSpec.ofChange linkedWalksWrong)

/-- 'mempoollaw7.LinkedSlots': WHATEVER THE INPUT: true; the input reads as it did. -/
def linkedSlotsSpec : ChangeSpec := { name := "linkedSlots", fn := fun _ => fun
  | [d] => { results := [.lit (.bool true)], args := [d] }
  | _ => none }
def linkedSlotsRow : OpenClaim := { program := "ytefinpapkjgpoaa", sum := "44b6a7cc200f9ab01b96152e8c3434b716dd3f167ec284528eaddb0cccbb436b", func := "mempool/mempoollaw7.LinkedSlots", spec := "linkedSlots", apart := false }
def LinkedSlotsSaid : Prop := linkedSlotsRow.holds Try.pinned (OpenSpec.ofChange linkedSlotsSpec)

/-- ITS FALSE NEIGHBOUR: 'it returns false'. Refute it at one input. -/
def linkedSlotsWrong : ChangeSpec := { name := "linkedSlots", fn := fun _ => fun
  | [d] => { results := [.lit (.bool false)], args := [d] }
  | _ => none }
def LinkedSlotsWrongFalsely : Prop := linkedSlotsRow.holds Try.pinned (OpenSpec.ofChange linkedSlotsWrong)

/-- 'mempoollaw7.LinkedNil': WHATEVER THE INPUT: true; the input reads as it did. -/
def linkedNilSpec : ChangeSpec := { name := "linkedNil", fn := fun _ => fun
  | [d1, d2] => { results := [.lit (.bool true)], args := [d1, d2] }
  | _ => none }
def linkedNilRow : OpenClaim := { program := "ytefinpapkjgpoaa", sum := "44b6a7cc200f9ab01b96152e8c3434b716dd3f167ec284528eaddb0cccbb436b", func := "mempool/mempoollaw7.LinkedNil", spec := "linkedNil", apart := false }
def LinkedNilSaid : Prop := linkedNilRow.holds Try.pinned (OpenSpec.ofChange linkedNilSpec)

/-- ITS FALSE NEIGHBOUR: 'it returns false'. Refute it at one input. -/
def linkedNilWrong : ChangeSpec := { name := "linkedNil", fn := fun _ => fun
  | [d1, d2] => { results := [.lit (.bool false)], args := [d1, d2] }
  | _ => none }
def LinkedNilWrongFalsely : Prop := linkedNilRow.holds Try.pinned (OpenSpec.ofChange linkedNilWrong)

/- THE SECOND FORM. 'bulk': how many values and letters a reading holds, each counted each time it is reached (what is shared counts as often as it is met; a slice's spare places count too). A statement '..UptoSaid' is the law's where the arguments, and the package variables that the reading takes, are together of bulk at most 1048576: NARROWER than '..Said'. Prove '..Said' where nothing that the law and all that it calls make is longer than what came in: it says more and counts as full. Else prove '..UptoSaid'. A law counts once. -/
mutual
def uptoBulk {H : Type} : DataW H → Nat
  | .lit (.string bytes) => bytes.length + 1
  | .lit _ => 1
  | .nil => 1
  | .ptr d => uptoBulk d + 1
  | .slice elems spare => uptoBulkAll elems + uptoBulkAll spare + 1
  | .agg parts => uptoBulkAll parts + 1
  | .iface _ d => uptoBulk d + 1
  | .map entries => uptoBulkEntries entries + 1
  | .held _ => 1
def uptoBulkAll {H : Type} : List (DataW H) → Nat
  | [] => 0
  | d :: r => uptoBulk d + uptoBulkAll r
def uptoBulkEntries {H : Type} : List (Lit × DataW H) → Nat
  | [] => 0
  | x :: r => uptoBulkEntry x + uptoBulkEntries r
def uptoBulkEntry {H : Type} : Lit × DataW H → Nat
  | (.string bytes, d) => bytes.length + uptoBulk d + 1
  | (_, d) => uptoBulk d + 1
 end
def uptoSmall : (H : Type) → List (DataW H) → Bool := fun _ ds => decide (uptoBulkAll ds ≤ 1048576)
def OpenSpec.upto (s : _root_.Go.ChangeSpec) : _root_.Go.OpenSpec := { _root_.Go.OpenSpec.ofChange s with cond := some uptoSmall }

/-- 'mempoollaw7.LinkedPlays', WHERE WHAT IT READS IS OF BULK AT MOST 1048576: true; the input reads as it did. -/
def linkedPlaysUptoRow : OpenClaim := { program := "ytefinpapkjgpoaa", sum := "44b6a7cc200f9ab01b96152e8c3434b716dd3f167ec284528eaddb0cccbb436b", func := "mempool/mempoollaw7.LinkedPlays", spec := "linkedPlays", apart := false, narrowed := true }
def LinkedPlaysUptoSaid : Prop := linkedPlaysUptoRow.holds Try.pinned (OpenSpec.upto linkedPlaysSpec)

/-- 'mempoollaw7.LinkedReads', WHERE WHAT IT READS IS OF BULK AT MOST 1048576: true; the input reads as it did. -/
def linkedReadsUptoRow : OpenClaim := { program := "ytefinpapkjgpoaa", sum := "44b6a7cc200f9ab01b96152e8c3434b716dd3f167ec284528eaddb0cccbb436b", func := "mempool/mempoollaw7.LinkedReads", spec := "linkedReads", apart := false, narrowed := true }
def LinkedReadsUptoSaid : Prop := linkedReadsUptoRow.holds Try.pinned (OpenSpec.upto linkedReadsSpec)

/-- 'mempoollaw7.LinkedWalks', WHERE WHAT IT READS IS OF BULK AT MOST 1048576: true; the input reads as it did. -/
def linkedWalksUptoRow : OpenClaim := { program := "ytefinpapkjgpoaa", sum := "44b6a7cc200f9ab01b96152e8c3434b716dd3f167ec284528eaddb0cccbb436b", func := "mempool/mempoollaw7.LinkedWalks", spec := "linkedWalks", apart := false, narrowed := true }
def LinkedWalksUptoSaid : Prop := linkedWalksUptoRow.holds Try.pinned (OpenSpec.upto linkedWalksSpec)

/-- 'mempoollaw7.LinkedSlots', WHERE WHAT IT READS IS OF BULK AT MOST 1048576: true; the input reads as it did. -/
def linkedSlotsUptoRow : OpenClaim := { program := "ytefinpapkjgpoaa", sum := "44b6a7cc200f9ab01b96152e8c3434b716dd3f167ec284528eaddb0cccbb436b", func := "mempool/mempoollaw7.LinkedSlots", spec := "linkedSlots", apart := false, narrowed := true }
def LinkedSlotsUptoSaid : Prop := linkedSlotsUptoRow.holds Try.pinned (OpenSpec.upto linkedSlotsSpec)

/-- 'mempoollaw7.LinkedNil', WHERE WHAT IT READS IS OF BULK AT MOST 1048576: true; the input reads as it did. -/
def linkedNilUptoRow : OpenClaim := { program := "ytefinpapkjgpoaa", sum := "44b6a7cc200f9ab01b96152e8c3434b716dd3f167ec284528eaddb0cccbb436b", func := "mempool/mempoollaw7.LinkedNil", spec := "linkedNil", apart := false, narrowed := true }
def LinkedNilUptoSaid : Prop := linkedNilUptoRow.holds Try.pinned (OpenSpec.upto linkedNilSpec)

end Rows
end Go.Proofs.Ytefinpapkjgpoaa
