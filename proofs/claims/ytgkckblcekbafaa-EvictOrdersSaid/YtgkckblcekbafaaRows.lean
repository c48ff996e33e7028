/-
  No cell of these rows narrows 'for every input' (looked for: loops, veiled, ifaces, maps, wideKeys, modest, calm, conditions, laid).
  DERIVED. THE GIVEN ROWS OF THIS SEAT. 4 by the template 'for every input the law returns true; each argument reads behind the call as it read before'; 0 by the template 'total and deterministic' (their statements: YtgkckblcekbafaaTotals.lean).
  GIVEN WITH THE SEED: the statements are not yours to turn. If you find one false, say at which input.
  Laid BY PROGRAM, IN A SANDBOX (cutbox-rows.mjs): the forced cells as the released guide's own fill.sh prints them over the translation fb863f8be59e9b1a… (all of the seat's roots in one cut). By AI agents, Wed Nov 11 2026. No macro, syntax, notation, axiom, sorry.
-/
import Derived.Test.YtgkckblcekbafaaChecked
import GoSem.Claim
import GoSem.ClaimJoined
import GoSem.ClaimMapViews
import Derived.JoinedTies
import Derived.KernelRfl
namespace Go.Proofs.Ytgkckblcekbafaa
/- THE CELL 'sum', in the pinned program and in every row, IS THE sha256 OF THE DUMP (.gsa) THAT YtgkckblcekbafaaProg.lean LOADS. Nothing in Lean hashes anything: it is a label: what it is worth is what the hold of that sum in a sandbox is worth. -/
noncomputable def Try.pinned : Pinned := { name := "ytgkckblcekbafaa", sum := "fb863f8be59e9b1a14133e827a9c21ec7b18034091dedb10bbe396b411b6a5c5", checked := Try.checked }
namespace Rows
def none {H : Type} : Left H := { results := [], args := [] }

/-- 'mempoollaw21.EvictOrders': WHATEVER THE INPUT: true; the input reads as it did. -/
def evictOrdersSpec : ChangeSpec := { name := "evictOrders", fn := fun _ => fun
  | [d1, d2] => { results := [.lit (.bool true)], args := [d1, d2] }
  | _ => none }
def evictOrdersRow : OpenClaim := { program := "ytgkckblcekbafaa", sum := "fb863f8be59e9b1a14133e827a9c21ec7b18034091dedb10bbe396b411b6a5c5", func := "mempool/mempoollaw21.EvictOrders", spec := "evictOrders", inPlace := ["internal/reflectlite.ValueOf", "internal/reflectlite.Swapper", "(internal/reflectlite.Value).Len"], unfollowed := true, recurses := true, apart := false }
def EvictOrdersSaid : Prop := evictOrdersRow.holds Try.pinned (OpenSpec.ofChange evictOrdersSpec)

/-- ITS FALSE NEIGHBOUR: 'it returns false'. Refute it at one input. -/
def evictOrdersWrong : ChangeSpec := { name := "evictOrders", fn := fun _ => fun
  | [d1, d2] => { results := [.lit (.bool false)], args := [d1, d2] }
  | _ => none }
def EvictOrdersWrongFalsely : Prop := evictOrdersRow.holds Try.pinned (OpenSpec.ofChange evictOrdersWrong)

/-- 'mempoollaw21.EvictSelects': WHATEVER THE INPUT: true; the input reads as it did. -/
def evictSelectsSpec : ChangeSpec := { name := "evictSelects", fn := fun _ => fun
  | [d1, d2, d3, d4, d5, d6] => { results := [.lit (.bool true)], args := [d1, d2, d3, d4, d5, d6] }
  | _ => none }
def evictSelectsRow : OpenClaim := { program := "ytgkckblcekbafaa", sum := "fb863f8be59e9b1a14133e827a9c21ec7b18034091dedb10bbe396b411b6a5c5", func := "mempool/mempoollaw21.EvictSelects", spec := "evictSelects", inPlace := ["internal/reflectlite.ValueOf", "internal/reflectlite.Swapper", "(internal/reflectlite.Value).Len"], unfollowed := true, recurses := true, apart := false }
def EvictSelectsSaid : Prop := evictSelectsRow.holds Try.pinned (OpenSpec.ofChange evictSelectsSpec)

/-- ITS FALSE NEIGHBOUR: 'it returns false'. Refute it at one input. -/
def evictSelectsWrong : ChangeSpec := { name := "evictSelects", fn := fun _ => fun
  | [d1, d2, d3, d4, d5, d6] => { results := [.lit (.bool false)], args := [d1, d2, d3, d4, d5, d6] }
  | _ => none }
def EvictSelectsWrongFalsely : Prop := evictSelectsRow.holds Try.pinned (OpenSpec.ofChange evictSelectsWrong)

/-- 'mempoollaw21.EvictNeeds': WHATEVER THE INPUT: true; the input reads as it did. -/
def evictNeedsSpec : ChangeSpec := { name := "evictNeeds", fn := fun _ => fun
  | [d1, d2, d3, d4, d5] => { results := [.lit (.bool true)], args := [d1, d2, d3, d4, d5] }
  | _ => none }
def evictNeedsRow : OpenClaim := { program := "ytgkckblcekbafaa", sum := "fb863f8be59e9b1a14133e827a9c21ec7b18034091dedb10bbe396b411b6a5c5", func := "mempool/mempoollaw21.EvictNeeds", spec := "evictNeeds", inPlace := ["internal/reflectlite.ValueOf", "internal/reflectlite.Swapper", "(internal/reflectlite.Value).Len"], unfollowed := true, recurses := true, apart := false }
def EvictNeedsSaid : Prop := evictNeedsRow.holds Try.pinned (OpenSpec.ofChange evictNeedsSpec)

/-- ITS FALSE NEIGHBOUR: 'it returns false'. Refute it at one input. -/
def evictNeedsWrong : ChangeSpec := { name := "evictNeeds", fn := fun _ => fun
  | [d1, d2, d3, d4, d5] => { results := [.lit (.bool false)], args := [d1, d2, d3, d4, d5] }
  | _ => none }
def EvictNeedsWrongFalsely : Prop := evictNeedsRow.holds Try.pinned (OpenSpec.ofChange evictNeedsWrong)

/-- 'mempoollaw21.EvictRefuses': WHATEVER THE INPUT: true; the input reads as it did. -/
def evictRefusesSpec : ChangeSpec := { name := "evictRefuses", fn := fun _ => fun
  | [d1, d2, d3, d4, d5] => { results := [.lit (.bool true)], args := [d1, d2, d3, d4, d5] }
  | _ => none }
def evictRefusesRow : OpenClaim := { program := "ytgkckblcekbafaa", sum := "fb863f8be59e9b1a14133e827a9c21ec7b18034091dedb10bbe396b411b6a5c5", func := "mempool/mempoollaw21.EvictRefuses", spec := "evictRefuses", inPlace := ["internal/reflectlite.ValueOf", "internal/reflectlite.Swapper", "(internal/reflectlite.Value).Len"], unfollowed := true, recurses := true, apart := false }
def EvictRefusesSaid : Prop := evictRefusesRow.holds Try.pinned (OpenSpec.ofChange evictRefusesSpec)

/-- ITS FALSE NEIGHBOUR: 'it returns false'. Refute it at one input. -/
def evictRefusesWrong : ChangeSpec := { name := "evictRefuses", fn := fun _ => fun
  | [d1, d2, d3, d4, d5] => { results := [.lit (.bool false)], args := [d1, d2, d3, d4, d5] }
  | _ => none }
def EvictRefusesWrongFalsely : Prop := evictRefusesRow.holds Try.pinned (OpenSpec.ofChange evictRefusesWrong)

/- THE SECOND FORM. 'bulk': how many values and letters a reading holds, each counted each time it is reached (what is shared counts as often as it is met; a slice's spare places count too). A statement '..UptoSaid' is the law's where the arguments, and the package variables that the reading takes, are together of bulk at most 1048576: NARROWER than '..Said'. Prove '..Said' where nothing that the law and all that it calls make is longer than what came in: it says more and counts as full. Else prove '..UptoSaid'. A law counts once. -/
mutual
def uptoBulk {H : Type} : DataW H → Nat
  | .lit (.string bytes) => bytes.length + 1
  | .lit _ => 1
  | .nil => 1
  | .ptr d => uptoBulk d + 1
  | .slice elems spare => uptoBulkAll elems + uptoBulkAll spare + 1
  | .agg parts => uptoBulkAll parts + 1
  | .iface _ d => uptoBulk d + 1
  | .map entries => uptoBulkEntries entries + 1
  | .held _ => 1
def uptoBulkAll {H : Type} : List (DataW H) → Nat
  | [] => 0
  | d :: r => uptoBulk d + uptoBulkAll r
def uptoBulkEntries {H : Type} : List (Lit × DataW H) → Nat
  | [] => 0
  | x :: r => uptoBulkEntry x + uptoBulkEntries r
def uptoBulkEntry {H : Type} : Lit × DataW H → Nat
  | (.string bytes, d) => bytes.length + uptoBulk d + 1
  | (_, d) => uptoBulk d + 1
 end
def uptoSmall : (H : Type) → List (DataW H) → Bool := fun _ ds => decide (uptoBulkAll ds ≤ 1048576)
def OpenSpec.upto (s : _root_.Go.ChangeSpec) : _root_.Go.OpenSpec := { _root_.Go.OpenSpec.ofChange s with cond := some uptoSmall }

/-- 'mempoollaw21.EvictOrders', WHERE WHAT IT READS IS OF BULK AT MOST 1048576: true; the input reads as it did. -/
def evictOrdersUptoRow : OpenClaim := { program := "ytgkckblcekbafaa", sum := "fb863f8be59e9b1a14133e827a9c21ec7b18034091dedb10bbe396b411b6a5c5", func := "mempool/mempoollaw21.EvictOrders", spec := "evictOrders", inPlace := ["internal/reflectlite.ValueOf", "internal/reflectlite.Swapper", "(internal/reflectlite.Value).Len"], unfollowed := true, recurses := true, apart := false, narrowed := true }
def EvictOrdersUptoSaid : Prop := evictOrdersUptoRow.holds Try.pinned (OpenSpec.upto evictOrdersSpec)

/-- 'mempoollaw21.EvictSelects', WHERE WHAT IT READS IS OF BULK AT MOST 1048576: true; the input reads as it did. -/
def evictSelectsUptoRow : OpenClaim := { program := "ytgkckblcekbafaa", sum := "fb863f8be59e9b1a14133e827a9c21ec7b18034091dedb10bbe396b411b6a5c5", func := "mempool/mempoollaw21.EvictSelects", spec := "evictSelects", inPlace := ["internal/reflectlite.ValueOf", "internal/reflectlite.Swapper", "(internal/reflectlite.Value).Len"], unfollowed := true, recurses := true, apart := false, narrowed := true }
def EvictSelectsUptoSaid : Prop := evictSelectsUptoRow.holds Try.pinned (OpenSpec.upto evictSelectsSpec)

/-- 'mempoollaw21.EvictNeeds', WHERE WHAT IT READS IS OF BULK AT MOST 1048576: true; the input reads as it did. -/
def evictNeedsUptoRow : OpenClaim := { program := "ytgkckblcekbafaa", sum := "fb863f8be59e9b1a14133e827a9c21ec7b18034091dedb10bbe396b411b6a5c5", func := "mempool/mempoollaw21.EvictNeeds", spec := "evictNeeds", inPlace := ["internal/reflectlite.ValueOf", "internal/reflectlite.Swapper", "(internal/reflectlite.Value).Len"], unfollowed := true, recurses := true, apart := false, narrowed := true }
def EvictNeedsUptoSaid : Prop := evictNeedsUptoRow.holds Try.pinned (OpenSpec.upto evictNeedsSpec)

/-- 'mempoollaw21.EvictRefuses', WHERE WHAT IT READS IS OF BULK AT MOST 1048576: true; the input reads as it did. -/
def evictRefusesUptoRow : OpenClaim := { program := "ytgkckblcekbafaa", sum := "fb863f8be59e9b1a14133e827a9c21ec7b18034091dedb10bbe396b411b6a5c5", func := "mempool/mempoollaw21.EvictRefuses", spec := "evictRefuses", inPlace := ["internal/reflectlite.ValueOf", "internal/reflectlite.Swapper", "(internal/reflectlite.Value).Len"], unfollowed := true, recurses := true, apart := false, narrowed := true }
def EvictRefusesUptoSaid : Prop := evictRefusesUptoRow.holds Try.pinned (OpenSpec.upto evictRefusesSpec)

end Rows
end Go.Proofs.Ytgkckblcekbafaa
