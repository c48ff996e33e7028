/-
  No cell of these rows narrows 'for every input' (looked for: loops, veiled, ifaces, maps, wideKeys, modest, calm, conditions, laid).
  DERIVED. THE GIVEN ROWS OF THIS SEAT. 2 by the template 'for every input the law returns true; each argument reads behind the call as it read before'; 0 by the template 'total and deterministic' (their statements: YtnhlpahoomcgnaaTotals.lean).
  GIVEN WITH THE SEED: the statements are not yours to turn. If you find one false, say at which input.
  Laid BY PROGRAM, IN A SANDBOX (cutbox-rows.mjs): the forced cells as the released guide's own fill.sh prints them over the translation 2723d9438043053e… (all of the seat's roots in one cut). By AI agents, Wed Nov 11 2026. No macro, syntax, notation, axiom, sorry.
-/
import Derived.Test.YtnhlpahoomcgnaaChecked
import GoSem.Claim
import GoSem.ClaimJoined
import GoSem.ClaimMapViews
import Derived.JoinedTies
import Derived.KernelRfl
namespace Go.Proofs.Ytnhlpahoomcgnaa
/- THE CELL 'sum', in the pinned program and in every row, IS THE sha256 OF THE DUMP (.gsa) THAT YtnhlpahoomcgnaaProg.lean LOADS. Nothing in Lean hashes anything: it is a label: what it is worth is what the hold of that sum in a sandbox is worth. -/
noncomputable def Try.pinned : Pinned := { name := "ytnhlpahoomcgnaa", sum := "2723d9438043053e7c3cad574336e7f4d2300f0f7c938b2b981759d9f6187b30", checked := Try.checked }
namespace Rows
def none {H : Type} : Left H := { results := [], args := [] }

/-- 'mempoollaw15.AppBegins': WHATEVER THE INPUT: true; the input reads as it did. -/
def appBeginsSpec : ChangeSpec := { name := "appBegins", fn := fun _ => fun
  | [d1, d2, d3] => { results := [.lit (.bool true)], args := [d1, d2, d3] }
  | _ => none }
def appBeginsRow : OpenClaim := { program := "ytnhlpahoomcgnaa", sum := "2723d9438043053e7c3cad574336e7f4d2300f0f7c938b2b981759d9f6187b30", func := "mempool/mempoollaw15.AppBegins", spec := "appBegins", inPlace := ["internal/bytealg.abigen_runtime_cmpstring", "math/bits.Add64"], unfollowed := true, recurses := true, named := ["math/bits.divideError", "math/bits.overflowError"], apart := false }
def AppBeginsSaid : Prop := appBeginsRow.holds Try.pinned (OpenSpec.ofChange appBeginsSpec)

/-- ITS FALSE NEIGHBOUR: 'it returns false'. Refute it at one input. -/
def appBeginsWrong : ChangeSpec := { name := "appBegins", fn := fun _ => fun
  | [d1, d2, d3] => { results := [.lit (.bool false)], args := [d1, d2, d3] }
  | _ => none }
def AppBeginsWrongFalsely : Prop := appBeginsRow.holds Try.pinned (OpenSpec.ofChange appBeginsWrong)

/-- 'mempoollaw15.AppLimits': WHATEVER THE INPUT: true; the input reads as it did. -/
def appLimitsSpec : ChangeSpec := { name := "appLimits", fn := fun _ => fun
  | [d] => { results := [.lit (.bool true)], args := [d] }
  | _ => none }
def appLimitsRow : OpenClaim := { program := "ytnhlpahoomcgnaa", sum := "2723d9438043053e7c3cad574336e7f4d2300f0f7c938b2b981759d9f6187b30", func := "mempool/mempoollaw15.AppLimits", spec := "appLimits", inPlace := ["math/bits.Add64", "internal/bytealg.abigen_runtime_cmpstring"], unfollowed := true, recurses := true, named := ["math/bits.divideError", "math/bits.overflowError"], apart := false }
def AppLimitsSaid : Prop := appLimitsRow.holds Try.pinned (OpenSpec.ofChange appLimitsSpec)

/-- ITS FALSE NEIGHBOUR: 'it returns false'. Refute it at one input. -/
def appLimitsWrong : ChangeSpec := { name := "appLimits", fn := fun _ => fun
  | [d] => { results := [.lit (.bool false)], args := [d] }
  | _ => none }
def AppLimitsWrongFalsely : Prop := appLimitsRow.holds Try.pinned (OpenSpec.ofChange appLimitsWrong)

/- THE SECOND FORM. 'bulk': how many values and letters a reading holds, each counted each time it is reached (what is shared counts as often as it is met; a slice's spare places count too). A statement '..UptoSaid' is the law's where the arguments, and the package variables that the reading takes, are together of bulk at most 1048576: NARROWER than '..Said'. Prove '..Said' where nothing that the law and all that it calls make is longer than what came in: it says more and counts as full. Else prove '..UptoSaid'. A law counts once. -/
mutual
def uptoBulk {H : Type} : DataW H → Nat
  | .lit (.string bytes) => bytes.length + 1
  | .lit _ => 1
  | .nil => 1
  | .ptr d => uptoBulk d + 1
  | .slice elems spare => uptoBulkAll elems + uptoBulkAll spare + 1
  | .agg parts => uptoBulkAll parts + 1
  | .iface _ d => uptoBulk d + 1
  | .map entries => uptoBulkEntries entries + 1
  | .held _ => 1
def uptoBulkAll {H : Type} : List (DataW H) → Nat
  | [] => 0
  | d :: r => uptoBulk d + uptoBulkAll r
def uptoBulkEntries {H : Type} : List (Lit × DataW H) → Nat
  | [] => 0
  | x :: r => uptoBulkEntry x + uptoBulkEntries r
def uptoBulkEntry {H : Type} : Lit × DataW H → Nat
  | (.string bytes, d) => bytes.length + uptoBulk d + 1
  | (_, d) => uptoBulk d + 1
 end
def uptoSmall : (H : Type) → List (DataW H) → Bool := fun _ ds => decide (uptoBulkAll ds ≤ 1048576)
def OpenSpec.upto (s : _root_.Go.ChangeSpec) : _root_.Go.OpenSpec := { _root_.Go.OpenSpec.ofChange s with cond := some uptoSmall }

/-- 'mempoollaw15.AppBegins', WHERE WHAT IT READS IS OF BULK AT MOST 1048576: true; the input reads as it did. -/
def appBeginsUptoRow : OpenClaim := { program := "ytnhlpahoomcgnaa", sum := "2723d9438043053e7c3cad574336e7f4d2300f0f7c938b2b981759d9f6187b30", func := "mempool/mempoollaw15.AppBegins", spec := "appBegins", inPlace := ["internal/bytealg.abigen_runtime_cmpstring", "math/bits.Add64"], unfollowed := true, recurses := true, named := ["math/bits.divideError", "math/bits.overflowError"], apart := false, narrowed := true }
def AppBeginsUptoSaid : Prop := appBeginsUptoRow.holds Try.pinned (OpenSpec.upto appBeginsSpec)

/-- 'mempoollaw15.AppLimits', WHERE WHAT IT READS IS OF BULK AT MOST 1048576: true; the input reads as it did. -/
def appLimitsUptoRow : OpenClaim := { program := "ytnhlpahoomcgnaa", sum := "2723d9438043053e7c3cad574336e7f4d2300f0f7c938b2b981759d9f6187b30", func := "mempool/mempoollaw15.AppLimits", spec := "appLimits", inPlace := ["math/bits.Add64", "internal/bytealg.abigen_runtime_cmpstring"], unfollowed := true, recurses := true, named := ["math/bits.divideError", "math/bits.overflowError"], apart := false, narrowed := true }
def AppLimitsUptoSaid : Prop := appLimitsUptoRow.holds Try.pinned (OpenSpec.upto appLimitsSpec)

end Rows
end Go.Proofs.Ytnhlpahoomcgnaa
