/-
  No cell of these rows narrows 'for every input' (looked for: loops, veiled, ifaces, maps, wideKeys, modest, calm, conditions, laid).
  DERIVED. THE GIVEN ROWS OF THIS SEAT. 4 by the template 'for every input the law returns true; each argument reads behind the call as it read before'; 0 by the template 'total and deterministic' (their statements: YtglglhcnofbagaaGreatTotals.lean).
  GIVEN WITH THE SEED: the statements are not yours to turn. If you find one false, say at which input.
  Laid BY PROGRAM, IN A SANDBOX (cutbox-rows.mjs): the forced cells as the released guide's own fill.sh prints them over the translation 209664a2980a305b… (all of the seat's roots in one cut). By AI agents, Wed Nov 11 2026. No macro, syntax, notation, axiom, sorry.
-/
import Derived.Test.YtglglhcnofbagaaGreatChecked
import GoSem.Claim
import GoSem.ClaimJoined
import GoSem.ClaimMapViews
import Derived.JoinedTies
import Derived.KernelRfl
namespace Go.Proofs.YtglglhcnofbagaaGreat
/- THE CELL 'sum', in the pinned program and in every row, IS THE sha256 OF THE DUMP (.gsa) THAT YtglglhcnofbagaaGreatProg.lean LOADS. Nothing in Lean hashes anything: it is a label: what it is worth is what the hold of that sum in a sandbox is worth. -/
noncomputable def Tryz.pinned : Pinned := { name := "ytglglhcnofbagaagreat", sum := "209664a2980a305be1df48d8821ee1e83a09489e73dc26c6e2c7f61d68b52383", checked := Tryz.checked }
namespace Rows
def none {H : Type} : Left H := { results := [], args := [] }

/-- 'mempoollaw13.ApplyTx': WHATEVER THE INPUT: true; the input reads as it did. -/
def applyTxSpec : ChangeSpec := { name := "applyTx", fn := fun _ => fun
  | [d1, d2, d3, d4] => { results := [.lit (.bool true)], args := [d1, d2, d3, d4] }
  | _ => none }
def applyTxRow : OpenClaim := { program := "ytglglhcnofbagaagreat", sum := "209664a2980a305be1df48d8821ee1e83a09489e73dc26c6e2c7f61d68b52383", func := "mempool/mempoollaw13.ApplyTx", spec := "applyTx", inPlace := ["math/bits.Add64", "internal/bytealg.abigen_runtime_cmpstring"], unfollowed := true, recurses := true, named := ["math/bits.divideError", "math/bits.overflowError"], apart := false }
def ApplyTxSaid : Prop := applyTxRow.holds Tryz.pinned (OpenSpec.ofChange applyTxSpec)

/-- ITS FALSE NEIGHBOUR: 'it returns false'. Refute it at one input. -/
def applyTxWrong : ChangeSpec := { name := "applyTx", fn := fun _ => fun
  | [d1, d2, d3, d4] => { results := [.lit (.bool false)], args := [d1, d2, d3, d4] }
  | _ => none }
def ApplyTxWrongFalsely : Prop := applyTxRow.holds Tryz.pinned (OpenSpec.ofChange applyTxWrong)

/-- 'mempoollaw13.ApplyErrors': WHATEVER THE INPUT: true; the input reads as it did. -/
def applyErrorsSpec : ChangeSpec := { name := "applyErrors", fn := fun _ => fun
  | [d1, d2, d3, d4, d5, d6] => { results := [.lit (.bool true)], args := [d1, d2, d3, d4, d5, d6] }
  | _ => none }
def applyErrorsRow : OpenClaim := { program := "ytglglhcnofbagaagreat", sum := "209664a2980a305be1df48d8821ee1e83a09489e73dc26c6e2c7f61d68b52383", func := "mempool/mempoollaw13.ApplyErrors", spec := "applyErrors", inPlace := ["math/bits.Add64", "internal/bytealg.abigen_runtime_cmpstring"], unfollowed := true, recurses := true, named := ["math/bits.divideError", "math/bits.overflowError"], apart := false }
def ApplyErrorsSaid : Prop := applyErrorsRow.holds Tryz.pinned (OpenSpec.ofChange applyErrorsSpec)

/-- ITS FALSE NEIGHBOUR: 'it returns false'. Refute it at one input. -/
def applyErrorsWrong : ChangeSpec := { name := "applyErrors", fn := fun _ => fun
  | [d1, d2, d3, d4, d5, d6] => { results := [.lit (.bool false)], args := [d1, d2, d3, d4, d5, d6] }
  | _ => none }
def ApplyErrorsWrongFalsely : Prop := applyErrorsRow.holds Tryz.pinned (OpenSpec.ofChange applyErrorsWrong)

/-- 'mempoollaw13.ApplyTotals': WHATEVER THE INPUT: true; the input reads as it did. -/
def applyTotalsSpec : ChangeSpec := { name := "applyTotals", fn := fun _ => fun
  | [d] => { results := [.lit (.bool true)], args := [d] }
  | _ => none }
def applyTotalsRow : OpenClaim := { program := "ytglglhcnofbagaagreat", sum := "209664a2980a305be1df48d8821ee1e83a09489e73dc26c6e2c7f61d68b52383", func := "mempool/mempoollaw13.ApplyTotals", spec := "applyTotals", inPlace := ["math/bits.Add64", "internal/bytealg.abigen_runtime_cmpstring"], unfollowed := true, recurses := true, named := ["math/bits.divideError", "math/bits.overflowError"], apart := false }
def ApplyTotalsSaid : Prop := applyTotalsRow.holds Tryz.pinned (OpenSpec.ofChange applyTotalsSpec)

/-- ITS FALSE NEIGHBOUR: 'it returns false'. Refute it at one input. -/
def applyTotalsWrong : ChangeSpec := { name := "applyTotals", fn := fun _ => fun
  | [d] => { results := [.lit (.bool false)], args := [d] }
  | _ => none }
def ApplyTotalsWrongFalsely : Prop := applyTotalsRow.holds Tryz.pinned (OpenSpec.ofChange applyTotalsWrong)

/-- 'mempoollaw13.ApplyOnce': WHATEVER THE INPUT: true; the input reads as it did. -/
def applyOnceSpec : ChangeSpec := { name := "applyOnce", fn := fun _ => fun
  | [d] => { results := [.lit (.bool true)], args := [d] }
  | _ => none }
def applyOnceRow : OpenClaim := { program := "ytglglhcnofbagaagreat", sum := "209664a2980a305be1df48d8821ee1e83a09489e73dc26c6e2c7f61d68b52383", func := "mempool/mempoollaw13.ApplyOnce", spec := "applyOnce", inPlace := ["math/bits.Add64", "internal/bytealg.abigen_runtime_cmpstring"], unfollowed := true, recurses := true, named := ["math/bits.divideError", "math/bits.overflowError"], apart := false }
def ApplyOnceSaid : Prop := applyOnceRow.holds Tryz.pinned (OpenSpec.ofChange applyOnceSpec)

/-- ITS FALSE NEIGHBOUR: 'it returns false'. Refute it at one input. -/
def applyOnceWrong : ChangeSpec := { name := "applyOnce", fn := fun _ => fun
  | [d] => { results := [.lit (.bool false)], args := [d] }
  | _ => none }
def ApplyOnceWrongFalsely : Prop := applyOnceRow.holds Tryz.pinned (OpenSpec.ofChange applyOnceWrong)

/- THE SECOND FORM. 'bulk': how many values and letters a reading holds, each counted each time it is reached (what is shared counts as often as it is met; a slice's spare places count too). A statement '..UptoSaid' is the law's where the arguments, and the package variables that the reading takes, are together of bulk at most 1048576: NARROWER than '..Said'. Prove '..Said' where nothing that the law and all that it calls make is longer than what came in: it says more and counts as full. Else prove '..UptoSaid'. A law counts once. -/
mutual
def uptoBulk {H : Type} : DataW H → Nat
  | .lit (.string bytes) => bytes.length + 1
  | .lit _ => 1
  | .nil => 1
  | .ptr d => uptoBulk d + 1
  | .slice elems spare => uptoBulkAll elems + uptoBulkAll spare + 1
  | .agg parts => uptoBulkAll parts + 1
  | .iface _ d => uptoBulk d + 1
  | .map entries => uptoBulkEntries entries + 1
  | .held _ => 1
def uptoBulkAll {H : Type} : List (DataW H) → Nat
  | [] => 0
  | d :: r => uptoBulk d + uptoBulkAll r
def uptoBulkEntries {H : Type} : List (Lit × DataW H) → Nat
  | [] => 0
  | x :: r => uptoBulkEntry x + uptoBulkEntries r
def uptoBulkEntry {H : Type} : Lit × DataW H → Nat
  | (.string bytes, d) => bytes.length + uptoBulk d + 1
  | (_, d) => uptoBulk d + 1
 end
def uptoSmall : (H : Type) → List (DataW H) → Bool := fun _ ds => decide (uptoBulkAll ds ≤ 1048576)
def OpenSpec.upto (s : _root_.Go.ChangeSpec) : _root_.Go.OpenSpec := { _root_.Go.OpenSpec.ofChange s with cond := some uptoSmall }

/-- 'mempoollaw13.ApplyTx', WHERE WHAT IT READS IS OF BULK AT MOST 1048576: true; the input reads as it did. -/
def applyTxUptoRow : OpenClaim := { program := "ytglglhcnofbagaagreat", sum := "209664a2980a305be1df48d8821ee1e83a09489e73dc26c6e2c7f61d68b52383", func := "mempool/mempoollaw13.ApplyTx", spec := "applyTx", inPlace := ["math/bits.Add64", "internal/bytealg.abigen_runtime_cmpstring"], unfollowed := true, recurses := true, named := ["math/bits.divideError", "math/bits.overflowError"], apart := false, narrowed := true }
def ApplyTxUptoSaid : Prop := applyTxUptoRow.holds Tryz.pinned (OpenSpec.upto applyTxSpec)

/-- 'mempoollaw13.ApplyErrors', WHERE WHAT IT READS IS OF BULK AT MOST 1048576: true; the input reads as it did. -/
def applyErrorsUptoRow : OpenClaim := { program := "ytglglhcnofbagaagreat", sum := "209664a2980a305be1df48d8821ee1e83a09489e73dc26c6e2c7f61d68b52383", func := "mempool/mempoollaw13.ApplyErrors", spec := "applyErrors", inPlace := ["math/bits.Add64", "internal/bytealg.abigen_runtime_cmpstring"], unfollowed := true, recurses := true, named := ["math/bits.divideError", "math/bits.overflowError"], apart := false, narrowed := true }
def ApplyErrorsUptoSaid : Prop := applyErrorsUptoRow.holds Tryz.pinned (OpenSpec.upto applyErrorsSpec)

/-- 'mempoollaw13.ApplyTotals', WHERE WHAT IT READS IS OF BULK AT MOST 1048576: true; the input reads as it did. -/
def applyTotalsUptoRow : OpenClaim := { program := "ytglglhcnofbagaagreat", sum := "209664a2980a305be1df48d8821ee1e83a09489e73dc26c6e2c7f61d68b52383", func := "mempool/mempoollaw13.ApplyTotals", spec := "applyTotals", inPlace := ["math/bits.Add64", "internal/bytealg.abigen_runtime_cmpstring"], unfollowed := true, recurses := true, named := ["math/bits.divideError", "math/bits.overflowError"], apart := false, narrowed := true }
def ApplyTotalsUptoSaid : Prop := applyTotalsUptoRow.holds Tryz.pinned (OpenSpec.upto applyTotalsSpec)

/-- 'mempoollaw13.ApplyOnce', WHERE WHAT IT READS IS OF BULK AT MOST 1048576: true; the input reads as it did. -/
def applyOnceUptoRow : OpenClaim := { program := "ytglglhcnofbagaagreat", sum := "209664a2980a305be1df48d8821ee1e83a09489e73dc26c6e2c7f61d68b52383", func := "mempool/mempoollaw13.ApplyOnce", spec := "applyOnce", inPlace := ["math/bits.Add64", "internal/bytealg.abigen_runtime_cmpstring"], unfollowed := true, recurses := true, named := ["math/bits.divideError", "math/bits.overflowError"], apart := false, narrowed := true }
def ApplyOnceUptoSaid : Prop := applyOnceUptoRow.holds Tryz.pinned (OpenSpec.upto applyOnceSpec)

end Rows
end Go.Proofs.YtglglhcnofbagaaGreat
