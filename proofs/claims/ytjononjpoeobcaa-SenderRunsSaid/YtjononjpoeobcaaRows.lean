/-
  No cell of these rows narrows 'for every input' (looked for: loops, veiled, ifaces, maps, wideKeys, modest, calm, conditions, laid).
  DERIVED. THE GIVEN ROWS OF THIS SEAT. 4 by the template 'for every input the law returns true; each argument reads behind the call as it read before'; 0 by the template 'total and deterministic' (their statements: YtjononjpoeobcaaTotals.lean).
  GIVEN WITH THE SEED: the statements are not yours to turn. If you find one false, say at which input.
  Laid BY PROGRAM, IN A SANDBOX (cutbox-rows.mjs): the forced cells as the released guide's own fill.sh prints them over the translation aef49ef169a66ca5… (all of the seat's roots in one cut). By AI agents, Wed Nov 11 2026. No macro, syntax, notation, axiom, sorry.
-/
import Derived.Test.YtjononjpoeobcaaChecked
import GoSem.Claim
import GoSem.ClaimJoined
import GoSem.ClaimMapViews
import Derived.JoinedTies
import Derived.KernelRfl
namespace Go.Proofs.Ytjononjpoeobcaa
/- THE CELL 'sum', in the pinned program and in every row, IS THE sha256 OF THE DUMP (.gsa) THAT YtjononjpoeobcaaProg.lean LOADS. Nothing in Lean hashes anything: it is a label: what it is worth is what the hold of that sum in a sandbox is worth. -/
noncomputable def Try.pinned : Pinned := { name := "ytjononjpoeobcaa", sum := "aef49ef169a66ca569fbaa5dee944ec186f48293a62ecc80eb347acd7064782b", checked := Try.checked }
namespace Rows
def none {H : Type} : Left H := { results := [], args := [] }

/-- 'mempoollaw17.SenderPlays': WHATEVER THE INPUT: true; the input reads as it did. -/
def senderPlaysSpec : ChangeSpec := { name := "senderPlays", fn := fun _ => fun
  | [d1, d2] => { results := [.lit (.bool true)], args := [d1, d2] }
  | _ => none }
def senderPlaysRow : OpenClaim := { program := "ytjononjpoeobcaa", sum := "aef49ef169a66ca569fbaa5dee944ec186f48293a62ecc80eb347acd7064782b", func := "mempool/mempoollaw17.SenderPlays", spec := "senderPlays", inPlace := ["slices.overlaps[mempool/sender.entry]"], unfollowed := true, recurses := true, apart := false }
def SenderPlaysSaid : Prop := senderPlaysRow.holds Try.pinned (OpenSpec.ofChange senderPlaysSpec)

/-- ITS FALSE NEIGHBOUR: 'it returns false'. Refute it at one input. -/
def senderPlaysWrong : ChangeSpec := { name := "senderPlays", fn := fun _ => fun
  | [d1, d2] => { results := [.lit (.bool false)], args := [d1, d2] }
  | _ => none }
def SenderPlaysWrongFalsely : Prop := senderPlaysRow.holds Try.pinned (OpenSpec.ofChange senderPlaysWrong)

/-- 'mempoollaw17.SenderLists': WHATEVER THE INPUT: true; the input reads as it did. -/
def senderListsSpec : ChangeSpec := { name := "senderLists", fn := fun _ => fun
  | [d1, d2] => { results := [.lit (.bool true)], args := [d1, d2] }
  | _ => none }
def senderListsRow : OpenClaim := { program := "ytjononjpoeobcaa", sum := "aef49ef169a66ca569fbaa5dee944ec186f48293a62ecc80eb347acd7064782b", func := "mempool/mempoollaw17.SenderLists", spec := "senderLists", inPlace := ["slices.overlaps[mempool/sender.entry]"], unfollowed := true, recurses := true, apart := false }
def SenderListsSaid : Prop := senderListsRow.holds Try.pinned (OpenSpec.ofChange senderListsSpec)

/-- ITS FALSE NEIGHBOUR: 'it returns false'. Refute it at one input. -/
def senderListsWrong : ChangeSpec := { name := "senderLists", fn := fun _ => fun
  | [d1, d2] => { results := [.lit (.bool false)], args := [d1, d2] }
  | _ => none }
def SenderListsWrongFalsely : Prop := senderListsRow.holds Try.pinned (OpenSpec.ofChange senderListsWrong)

/-- 'mempoollaw17.SenderRuns': WHATEVER THE INPUT: true; the input reads as it did. -/
def senderRunsSpec : ChangeSpec := { name := "senderRuns", fn := fun _ => fun
  | [d1, d2] => { results := [.lit (.bool true)], args := [d1, d2] }
  | _ => none }
def senderRunsRow : OpenClaim := { program := "ytjononjpoeobcaa", sum := "aef49ef169a66ca569fbaa5dee944ec186f48293a62ecc80eb347acd7064782b", func := "mempool/mempoollaw17.SenderRuns", spec := "senderRuns", inPlace := ["slices.overlaps[mempool/sender.entry]"], unfollowed := true, recurses := true, apart := false }
def SenderRunsSaid : Prop := senderRunsRow.holds Try.pinned (OpenSpec.ofChange senderRunsSpec)

/-- ITS FALSE NEIGHBOUR: 'it returns false'. Refute it at one input. -/
def senderRunsWrong : ChangeSpec := { name := "senderRuns", fn := fun _ => fun
  | [d1, d2] => { results := [.lit (.bool false)], args := [d1, d2] }
  | _ => none }
def SenderRunsWrongFalsely : Prop := senderRunsRow.holds Try.pinned (OpenSpec.ofChange senderRunsWrong)

/-- 'mempoollaw17.SenderForgets': WHATEVER THE INPUT: true; the input reads as it did. -/
def senderForgetsSpec : ChangeSpec := { name := "senderForgets", fn := fun _ => fun
  | [d1, d2, d3] => { results := [.lit (.bool true)], args := [d1, d2, d3] }
  | _ => none }
def senderForgetsRow : OpenClaim := { program := "ytjononjpoeobcaa", sum := "aef49ef169a66ca569fbaa5dee944ec186f48293a62ecc80eb347acd7064782b", func := "mempool/mempoollaw17.SenderForgets", spec := "senderForgets", inPlace := ["slices.overlaps[mempool/sender.entry]"], unfollowed := true, recurses := true, apart := false }
def SenderForgetsSaid : Prop := senderForgetsRow.holds Try.pinned (OpenSpec.ofChange senderForgetsSpec)

/-- ITS FALSE NEIGHBOUR: 'it returns false'. Refute it at one input. -/
def senderForgetsWrong : ChangeSpec := { name := "senderForgets", fn := fun _ => fun
  | [d1, d2, d3] => { results := [.lit (.bool false)], args := [d1, d2, d3] }
  | _ => none }
def SenderForgetsWrongFalsely : Prop := senderForgetsRow.holds Try.pinned (OpenSpec.ofChange senderForgetsWrong)

/- THE SECOND FORM. 'bulk': how many values and letters a reading holds, each counted each time it is reached (what is shared counts as often as it is met; a slice's spare places count too). A statement '..UptoSaid' is the law's where the arguments, and the package variables that the reading takes, are together of bulk at most 1048576: NARROWER than '..Said'. Prove '..Said' where nothing that the law and all that it calls make is longer than what came in: it says more and counts as full. Else prove '..UptoSaid'. A law counts once. -/
mutual
def uptoBulk {H : Type} : DataW H → Nat
  | .lit (.string bytes) => bytes.length + 1
  | .lit _ => 1
  | .nil => 1
  | .ptr d => uptoBulk d + 1
  | .slice elems spare => uptoBulkAll elems + uptoBulkAll spare + 1
  | .agg parts => uptoBulkAll parts + 1
  | .iface _ d => uptoBulk d + 1
  | .map entries => uptoBulkEntries entries + 1
  | .held _ => 1
def uptoBulkAll {H : Type} : List (DataW H) → Nat
  | [] => 0
  | d :: r => uptoBulk d + uptoBulkAll r
def uptoBulkEntries {H : Type} : List (Lit × DataW H) → Nat
  | [] => 0
  | x :: r => uptoBulkEntry x + uptoBulkEntries r
def uptoBulkEntry {H : Type} : Lit × DataW H → Nat
  | (.string bytes, d) => bytes.length + uptoBulk d + 1
  | (_, d) => uptoBulk d + 1
 end
def uptoSmall : (H : Type) → List (DataW H) → Bool := fun _ ds => decide (uptoBulkAll ds ≤ 1048576)
def OpenSpec.upto (s : _root_.Go.ChangeSpec) : _root_.Go.OpenSpec := { _root_.Go.OpenSpec.ofChange s with cond := some uptoSmall }

/-- 'mempoollaw17.SenderPlays', WHERE WHAT IT READS IS OF BULK AT MOST 1048576: true; the input reads as it did. -/
def senderPlaysUptoRow : OpenClaim := { program := "ytjononjpoeobcaa", sum := "aef49ef169a66ca569fbaa5dee944ec186f48293a62ecc80eb347acd7064782b", func := "mempool/mempoollaw17.SenderPlays", spec := "senderPlays", inPlace := ["slices.overlaps[mempool/sender.entry]"], unfollowed := true, recurses := true, apart := false, narrowed := true }
def SenderPlaysUptoSaid : Prop := senderPlaysUptoRow.holds Try.pinned (OpenSpec.upto senderPlaysSpec)

/-- 'mempoollaw17.SenderLists', WHERE WHAT IT READS IS OF BULK AT MOST 1048576: true; the input reads as it did. -/
def senderListsUptoRow : OpenClaim := { program := "ytjononjpoeobcaa", sum := "aef49ef169a66ca569fbaa5dee944ec186f48293a62ecc80eb347acd7064782b", func := "mempool/mempoollaw17.SenderLists", spec := "senderLists", inPlace := ["slices.overlaps[mempool/sender.entry]"], unfollowed := true, recurses := true, apart := false, narrowed := true }
def SenderListsUptoSaid : Prop := senderListsUptoRow.holds Try.pinned (OpenSpec.upto senderListsSpec)

/-- 'mempoollaw17.SenderRuns', WHERE WHAT IT READS IS OF BULK AT MOST 1048576: true; the input reads as it did. -/
def senderRunsUptoRow : OpenClaim := { program := "ytjononjpoeobcaa", sum := "aef49ef169a66ca569fbaa5dee944ec186f48293a62ecc80eb347acd7064782b", func := "mempool/mempoollaw17.SenderRuns", spec := "senderRuns", inPlace := ["slices.overlaps[mempool/sender.entry]"], unfollowed := true, recurses := true, apart := false, narrowed := true }
def SenderRunsUptoSaid : Prop := senderRunsUptoRow.holds Try.pinned (OpenSpec.upto senderRunsSpec)

/-- 'mempoollaw17.SenderForgets', WHERE WHAT IT READS IS OF BULK AT MOST 1048576: true; the input reads as it did. -/
def senderForgetsUptoRow : OpenClaim := { program := "ytjononjpoeobcaa", sum := "aef49ef169a66ca569fbaa5dee944ec186f48293a62ecc80eb347acd7064782b", func := "mempool/mempoollaw17.SenderForgets", spec := "senderForgets", inPlace := ["slices.overlaps[mempool/sender.entry]"], unfollowed := true, recurses := true, apart := false, narrowed := true }
def SenderForgetsUptoSaid : Prop := senderForgetsUptoRow.holds Try.pinned (OpenSpec.upto senderForgetsSpec)

end Rows
end Go.Proofs.Ytjononjpoeobcaa
