/-
  No cell of these rows narrows 'for every input' (looked for: loops, veiled, ifaces, maps, wideKeys, modest, calm, conditions, laid).
  DERIVED. THE GIVEN ROWS OF THIS SEAT. 3 by the template 'for every input the law returns true; each argument reads behind the call as it read before'; 0 by the template 'total and deterministic' (their statements: YtnhlpahoomcgnaaGreatTotals.lean).
  GIVEN WITH THE SEED: the statements are not yours to turn. If you find one false, say at which input.
  Laid BY PROGRAM, IN A SANDBOX (cutbox-rows.mjs): the forced cells as the released guide's own fill.sh prints them over the translation 639c5249d3b57677… (all of the seat's roots in one cut). By AI agents, Wed Nov 11 2026. No macro, syntax, notation, axiom, sorry.
-/
import Derived.Test.YtnhlpahoomcgnaaGreatChecked
import GoSem.Claim
import GoSem.ClaimJoined
import GoSem.ClaimMapViews
import Derived.JoinedTies
import Derived.KernelRfl
namespace Go.Proofs.YtnhlpahoomcgnaaGreat
/- THE CELL 'sum', in the pinned program and in every row, IS THE sha256 OF THE DUMP (.gsa) THAT YtnhlpahoomcgnaaGreatProg.lean LOADS. Nothing in Lean hashes anything: it is a label: what it is worth is what the hold of that sum in a sandbox is worth. -/
noncomputable def Tryz.pinned : Pinned := { name := "ytnhlpahoomcgnaagreat", sum := "639c5249d3b57677c1775e4a9ab0332a84980dd87f547b608b0945f765c075f1", checked := Tryz.checked }
namespace Rows
def none {H : Type} : Left H := { results := [], args := [] }

/-- 'mempoollaw15.AppChecks': WHATEVER THE INPUT: true; the input reads as it did. -/
def appChecksSpec : ChangeSpec := { name := "appChecks", fn := fun _ => fun
  | [d1, d2] => { results := [.lit (.bool true)], args := [d1, d2] }
  | _ => none }
def appChecksRow : OpenClaim := { program := "ytnhlpahoomcgnaagreat", sum := "639c5249d3b57677c1775e4a9ab0332a84980dd87f547b608b0945f765c075f1", func := "mempool/mempoollaw15.AppChecks", spec := "appChecks", inPlace := ["internal/bytealg.abigen_runtime_cmpstring", "math/bits.Add64"], unfollowed := true, recurses := true, named := ["math/bits.divideError", "math/bits.overflowError"], apart := false }
def AppChecksSaid : Prop := appChecksRow.holds Tryz.pinned (OpenSpec.ofChange appChecksSpec)

/-- ITS FALSE NEIGHBOUR: 'it returns false'. Refute it at one input. -/
def appChecksWrong : ChangeSpec := { name := "appChecks", fn := fun _ => fun
  | [d1, d2] => { results := [.lit (.bool false)], args := [d1, d2] }
  | _ => none }
def AppChecksWrongFalsely : Prop := appChecksRow.holds Tryz.pinned (OpenSpec.ofChange appChecksWrong)

/-- 'mempoollaw15.AppBlocks': WHATEVER THE INPUT: true; the input reads as it did. -/
def appBlocksSpec : ChangeSpec := { name := "appBlocks", fn := fun _ => fun
  | [d1, d2] => { results := [.lit (.bool true)], args := [d1, d2] }
  | _ => none }
def appBlocksRow : OpenClaim := { program := "ytnhlpahoomcgnaagreat", sum := "639c5249d3b57677c1775e4a9ab0332a84980dd87f547b608b0945f765c075f1", func := "mempool/mempoollaw15.AppBlocks", spec := "appBlocks", inPlace := ["internal/bytealg.abigen_runtime_cmpstring", "math/bits.Add64"], unfollowed := true, recurses := true, named := ["math/bits.divideError", "math/bits.overflowError"], apart := false }
def AppBlocksSaid : Prop := appBlocksRow.holds Tryz.pinned (OpenSpec.ofChange appBlocksSpec)

/-- ITS FALSE NEIGHBOUR: 'it returns false'. Refute it at one input. -/
def appBlocksWrong : ChangeSpec := { name := "appBlocks", fn := fun _ => fun
  | [d1, d2] => { results := [.lit (.bool false)], args := [d1, d2] }
  | _ => none }
def AppBlocksWrongFalsely : Prop := appBlocksRow.holds Tryz.pinned (OpenSpec.ofChange appBlocksWrong)

/-- 'mempoollaw15.AppAccepts': WHATEVER THE INPUT: true; the input reads as it did. -/
def appAcceptsSpec : ChangeSpec := { name := "appAccepts", fn := fun _ => fun
  | [d] => { results := [.lit (.bool true)], args := [d] }
  | _ => none }
def appAcceptsRow : OpenClaim := { program := "ytnhlpahoomcgnaagreat", sum := "639c5249d3b57677c1775e4a9ab0332a84980dd87f547b608b0945f765c075f1", func := "mempool/mempoollaw15.AppAccepts", spec := "appAccepts", inPlace := ["internal/bytealg.abigen_runtime_cmpstring", "math/bits.Add64"], unfollowed := true, recurses := true, named := ["math/bits.divideError", "math/bits.overflowError"], apart := false }
def AppAcceptsSaid : Prop := appAcceptsRow.holds Tryz.pinned (OpenSpec.ofChange appAcceptsSpec)

/-- ITS FALSE NEIGHBOUR: 'it returns false'. Refute it at one input. -/
def appAcceptsWrong : ChangeSpec := { name := "appAccepts", fn := fun _ => fun
  | [d] => { results := [.lit (.bool false)], args := [d] }
  | _ => none }
def AppAcceptsWrongFalsely : Prop := appAcceptsRow.holds Tryz.pinned (OpenSpec.ofChange appAcceptsWrong)

/- THE SECOND FORM. 'bulk': how many values and letters a reading holds, each counted each time it is reached (what is shared counts as often as it is met; a slice's spare places count too). A statement '..UptoSaid' is the law's where the arguments, and the package variables that the reading takes, are together of bulk at most 1048576: NARROWER than '..Said'. Prove '..Said' where nothing that the law and all that it calls make is longer than what came in: it says more and counts as full. Else prove '..UptoSaid'. A law counts once. -/
mutual
def uptoBulk {H : Type} : DataW H → Nat
  | .lit (.string bytes) => bytes.length + 1
  | .lit _ => 1
  | .nil => 1
  | .ptr d => uptoBulk d + 1
  | .slice elems spare => uptoBulkAll elems + uptoBulkAll spare + 1
  | .agg parts => uptoBulkAll parts + 1
  | .iface _ d => uptoBulk d + 1
  | .map entries => uptoBulkEntries entries + 1
  | .held _ => 1
def uptoBulkAll {H : Type} : List (DataW H) → Nat
  | [] => 0
  | d :: r => uptoBulk d + uptoBulkAll r
def uptoBulkEntries {H : Type} : List (Lit × DataW H) → Nat
  | [] => 0
  | x :: r => uptoBulkEntry x + uptoBulkEntries r
def uptoBulkEntry {H : Type} : Lit × DataW H → Nat
  | (.string bytes, d) => bytes.length + uptoBulk d + 1
  | (_, d) => uptoBulk d + 1
 end
def uptoSmall : (H : Type) → List (DataW H) → Bool := fun _ ds => decide (uptoBulkAll ds ≤ 1048576)
def OpenSpec.upto (s : _root_.Go.ChangeSpec) : _root_.Go.OpenSpec := { _root_.Go.OpenSpec.ofChange s with cond := some uptoSmall }

/-- 'mempoollaw15.AppChecks', WHERE WHAT IT READS IS OF BULK AT MOST 1048576: true; the input reads as it did. -/
def appChecksUptoRow : OpenClaim := { program := "ytnhlpahoomcgnaagreat", sum := "639c5249d3b57677c1775e4a9ab0332a84980dd87f547b608b0945f765c075f1", func := "mempool/mempoollaw15.AppChecks", spec := "appChecks", inPlace := ["internal/bytealg.abigen_runtime_cmpstring", "math/bits.Add64"], unfollowed := true, recurses := true, named := ["math/bits.divideError", "math/bits.overflowError"], apart := false, narrowed := true }
def AppChecksUptoSaid : Prop := appChecksUptoRow.holds Tryz.pinned (OpenSpec.upto appChecksSpec)

/-- 'mempoollaw15.AppBlocks', WHERE WHAT IT READS IS OF BULK AT MOST 1048576: true; the input reads as it did. -/
def appBlocksUptoRow : OpenClaim := { program := "ytnhlpahoomcgnaagreat", sum := "639c5249d3b57677c1775e4a9ab0332a84980dd87f547b608b0945f765c075f1", func := "mempool/mempoollaw15.AppBlocks", spec := "appBlocks", inPlace := ["internal/bytealg.abigen_runtime_cmpstring", "math/bits.Add64"], unfollowed := true, recurses := true, named := ["math/bits.divideError", "math/bits.overflowError"], apart := false, narrowed := true }
def AppBlocksUptoSaid : Prop := appBlocksUptoRow.holds Tryz.pinned (OpenSpec.upto appBlocksSpec)

/-- 'mempoollaw15.AppAccepts', WHERE WHAT IT READS IS OF BULK AT MOST 1048576: true; the input reads as it did. -/
def appAcceptsUptoRow : OpenClaim := { program := "ytnhlpahoomcgnaagreat", sum := "639c5249d3b57677c1775e4a9ab0332a84980dd87f547b608b0945f765c075f1", func := "mempool/mempoollaw15.AppAccepts", spec := "appAccepts", inPlace := ["internal/bytealg.abigen_runtime_cmpstring", "math/bits.Add64"], unfollowed := true, recurses := true, named := ["math/bits.divideError", "math/bits.overflowError"], apart := false, narrowed := true }
def AppAcceptsUptoSaid : Prop := appAcceptsUptoRow.holds Tryz.pinned (OpenSpec.upto appAcceptsSpec)

end Rows
end Go.Proofs.YtnhlpahoomcgnaaGreat
