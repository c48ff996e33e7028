/-
  No cell of these rows narrows 'for every input' (looked for: loops, veiled, ifaces, maps, wideKeys, modest, calm, conditions, laid).
  DERIVED. THE GIVEN ROWS OF THIS SEAT. 3 by the template 'for every input the law returns true; each argument reads behind the call as it read before'; 0 by the template 'total and deterministic' (their statements: YtdjphghoollejaaTotals.lean).
  GIVEN WITH THE SEED: the statements are not yours to turn. If you find one false, say at which input.
  Laid BY PROGRAM, IN A SANDBOX (cutbox-rows.mjs): the forced cells as the released guide's own fill.sh prints them over the translation 956941a2cffa5025… (all of the seat's roots in one cut). By AI agents, Wed Nov 11 2026. No macro, syntax, notation, axiom, sorry.
-/
import Derived.Test.YtdjphghoollejaaChecked
import GoSem.Claim
import GoSem.ClaimJoined
import GoSem.ClaimMapViews
import Derived.JoinedTies
import Derived.KernelRfl
namespace Go.Proofs.Ytdjphghoollejaa
/- THE CELL 'sum', in the pinned program and in every row, IS THE sha256 OF THE DUMP (.gsa) THAT YtdjphghoollejaaProg.lean LOADS. Nothing in Lean hashes anything: it is a label: what it is worth is what the hold of that sum in a sandbox is worth. -/
noncomputable def Try.pinned : Pinned := { name := "ytdjphghoollejaa", sum := "956941a2cffa5025cf6fff415eb7a34adcd3d81d5fd82f6c3f68bb2cdb719d61", checked := Try.checked }
namespace Rows
def none {H : Type} : Left H := { results := [], args := [] }

/-- 'mempoollaw18.ExpiryPlays': WHATEVER THE INPUT: true; the input reads as it did. -/
def expiryPlaysSpec : ChangeSpec := { name := "expiryPlays", fn := fun _ => fun
  | [d1, d2, d3] => { results := [.lit (.bool true)], args := [d1, d2, d3] }
  | _ => none }
def expiryPlaysRow : OpenClaim := { program := "ytdjphghoollejaa", sum := "956941a2cffa5025cf6fff415eb7a34adcd3d81d5fd82f6c3f68bb2cdb719d61", func := "mempool/mempoollaw18.ExpiryPlays", spec := "expiryPlays", inPlace := ["slices.overlaps[mempool/expiry.wait]"], unfollowed := true, recurses := true, apart := false }
def ExpiryPlaysSaid : Prop := expiryPlaysRow.holds Try.pinned (OpenSpec.ofChange expiryPlaysSpec)

/-- ITS FALSE NEIGHBOUR: 'it returns false'. Refute it at one input. -/
def expiryPlaysWrong : ChangeSpec := { name := "expiryPlays", fn := fun _ => fun
  | [d1, d2, d3] => { results := [.lit (.bool false)], args := [d1, d2, d3] }
  | _ => none }
def ExpiryPlaysWrongFalsely : Prop := expiryPlaysRow.holds Try.pinned (OpenSpec.ofChange expiryPlaysWrong)

/-- 'mempoollaw18.ExpiryStays': WHATEVER THE INPUT: true; the input reads as it did. -/
def expiryStaysSpec : ChangeSpec := { name := "expiryStays", fn := fun _ => fun
  | [d1, d2, d3, d4, d5] => { results := [.lit (.bool true)], args := [d1, d2, d3, d4, d5] }
  | _ => none }
def expiryStaysRow : OpenClaim := { program := "ytdjphghoollejaa", sum := "956941a2cffa5025cf6fff415eb7a34adcd3d81d5fd82f6c3f68bb2cdb719d61", func := "mempool/mempoollaw18.ExpiryStays", spec := "expiryStays", inPlace := ["slices.overlaps[mempool/expiry.wait]"], unfollowed := true, recurses := true, apart := false }
def ExpiryStaysSaid : Prop := expiryStaysRow.holds Try.pinned (OpenSpec.ofChange expiryStaysSpec)

/-- ITS FALSE NEIGHBOUR: 'it returns false'. Refute it at one input. -/
def expiryStaysWrong : ChangeSpec := { name := "expiryStays", fn := fun _ => fun
  | [d1, d2, d3, d4, d5] => { results := [.lit (.bool false)], args := [d1, d2, d3, d4, d5] }
  | _ => none }
def ExpiryStaysWrongFalsely : Prop := expiryStaysRow.holds Try.pinned (OpenSpec.ofChange expiryStaysWrong)

/-- 'mempoollaw18.ExpiryEdges': WHATEVER THE INPUT: true; the input reads as it did. -/
def expiryEdgesSpec : ChangeSpec := { name := "expiryEdges", fn := fun _ => fun
  | [d1, d2] => { results := [.lit (.bool true)], args := [d1, d2] }
  | _ => none }
def expiryEdgesRow : OpenClaim := { program := "ytdjphghoollejaa", sum := "956941a2cffa5025cf6fff415eb7a34adcd3d81d5fd82f6c3f68bb2cdb719d61", func := "mempool/mempoollaw18.ExpiryEdges", spec := "expiryEdges", inPlace := ["slices.overlaps[mempool/expiry.wait]"], unfollowed := true, recurses := true, apart := false }
def ExpiryEdgesSaid : Prop := expiryEdgesRow.holds Try.pinned (OpenSpec.ofChange expiryEdgesSpec)

/-- ITS FALSE NEIGHBOUR: 'it returns false'. Refute it at one input. -/
def expiryEdgesWrong : ChangeSpec := { name := "expiryEdges", fn := fun _ => fun
  | [d1, d2] => { results := [.lit (.bool false)], args := [d1, d2] }
  | _ => none }
def ExpiryEdgesWrongFalsely : Prop := expiryEdgesRow.holds Try.pinned (OpenSpec.ofChange expiryEdgesWrong)

/- THE SECOND FORM. 'bulk': how many values and letters a reading holds, each counted each time it is reached (what is shared counts as often as it is met; a slice's spare places count too). A statement '..UptoSaid' is the law's where the arguments, and the package variables that the reading takes, are together of bulk at most 1048576: NARROWER than '..Said'. Prove '..Said' where nothing that the law and all that it calls make is longer than what came in: it says more and counts as full. Else prove '..UptoSaid'. A law counts once. -/
mutual
def uptoBulk {H : Type} : DataW H → Nat
  | .lit (.string bytes) => bytes.length + 1
  | .lit _ => 1
  | .nil => 1
  | .ptr d => uptoBulk d + 1
  | .slice elems spare => uptoBulkAll elems + uptoBulkAll spare + 1
  | .agg parts => uptoBulkAll parts + 1
  | .iface _ d => uptoBulk d + 1
  | .map entries => uptoBulkEntries entries + 1
  | .held _ => 1
def uptoBulkAll {H : Type} : List (DataW H) → Nat
  | [] => 0
  | d :: r => uptoBulk d + uptoBulkAll r
def uptoBulkEntries {H : Type} : List (Lit × DataW H) → Nat
  | [] => 0
  | x :: r => uptoBulkEntry x + uptoBulkEntries r
def uptoBulkEntry {H : Type} : Lit × DataW H → Nat
  | (.string bytes, d) => bytes.length + uptoBulk d + 1
  | (_, d) => uptoBulk d + 1
 end
def uptoSmall : (H : Type) → List (DataW H) → Bool := fun _ ds => decide (uptoBulkAll ds ≤ 1048576)
def OpenSpec.upto (s : _root_.Go.ChangeSpec) : _root_.Go.OpenSpec := { _root_.Go.OpenSpec.ofChange s with cond := some uptoSmall }

/-- 'mempoollaw18.ExpiryPlays', WHERE WHAT IT READS IS OF BULK AT MOST 1048576: true; the input reads as it did. -/
def expiryPlaysUptoRow : OpenClaim := { program := "ytdjphghoollejaa", sum := "956941a2cffa5025cf6fff415eb7a34adcd3d81d5fd82f6c3f68bb2cdb719d61", func := "mempool/mempoollaw18.ExpiryPlays", spec := "expiryPlays", inPlace := ["slices.overlaps[mempool/expiry.wait]"], unfollowed := true, recurses := true, apart := false, narrowed := true }
def ExpiryPlaysUptoSaid : Prop := expiryPlaysUptoRow.holds Try.pinned (OpenSpec.upto expiryPlaysSpec)

/-- 'mempoollaw18.ExpiryStays', WHERE WHAT IT READS IS OF BULK AT MOST 1048576: true; the input reads as it did. -/
def expiryStaysUptoRow : OpenClaim := { program := "ytdjphghoollejaa", sum := "956941a2cffa5025cf6fff415eb7a34adcd3d81d5fd82f6c3f68bb2cdb719d61", func := "mempool/mempoollaw18.ExpiryStays", spec := "expiryStays", inPlace := ["slices.overlaps[mempool/expiry.wait]"], unfollowed := true, recurses := true, apart := false, narrowed := true }
def ExpiryStaysUptoSaid : Prop := expiryStaysUptoRow.holds Try.pinned (OpenSpec.upto expiryStaysSpec)

/-- 'mempoollaw18.ExpiryEdges', WHERE WHAT IT READS IS OF BULK AT MOST 1048576: true; the input reads as it did. -/
def expiryEdgesUptoRow : OpenClaim := { program := "ytdjphghoollejaa", sum := "956941a2cffa5025cf6fff415eb7a34adcd3d81d5fd82f6c3f68bb2cdb719d61", func := "mempool/mempoollaw18.ExpiryEdges", spec := "expiryEdges", inPlace := ["slices.overlaps[mempool/expiry.wait]"], unfollowed := true, recurses := true, apart := false, narrowed := true }
def ExpiryEdgesUptoSaid : Prop := expiryEdgesUptoRow.holds Try.pinned (OpenSpec.upto expiryEdgesSpec)

end Rows
end Go.Proofs.Ytdjphghoollejaa
