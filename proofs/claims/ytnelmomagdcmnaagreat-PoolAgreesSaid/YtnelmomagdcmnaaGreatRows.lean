/-
  No cell of these rows narrows 'for every input' (looked for: loops, veiled, ifaces, maps, wideKeys, modest, calm, conditions, laid).
  DERIVED. THE GIVEN ROWS OF THIS SEAT. 5 by the template 'for every input the law returns true; each argument reads behind the call as it read before'; 0 by the template 'total and deterministic' (their statements: YtnelmomagdcmnaaGreatTotals.lean).
  GIVEN WITH THE SEED: the statements are not yours to turn. If you find one false, say at which input.
  Laid BY PROGRAM, IN A SANDBOX (cutbox-rows.mjs): the forced cells as the released guide's own fill.sh prints them over the translation 1df2bca9c1a35778… (all of the seat's roots in one cut). By AI agents, Wed Nov 11 2026. No macro, syntax, notation, axiom, sorry.
-/
import Derived.Test.YtnelmomagdcmnaaGreatChecked
import GoSem.Claim
import GoSem.ClaimJoined
import GoSem.ClaimMapViews
import Derived.JoinedTies
import Derived.KernelRfl
namespace Go.Proofs.YtnelmomagdcmnaaGreat
/- THE CELL 'sum', in the pinned program and in every row, IS THE sha256 OF THE DUMP (.gsa) THAT YtnelmomagdcmnaaGreatProg.lean LOADS. Nothing in Lean hashes anything: it is a label: what it is worth is what the hold of that sum in a sandbox is worth. -/
noncomputable def Tryz.pinned : Pinned := { name := "ytnelmomagdcmnaagreat", sum := "1df2bca9c1a357783afe317eac861525142af249b95bd501c10c8125a466dd74", checked := Tryz.checked }
namespace Rows
def none {H : Type} : Left H := { results := [], args := [] }

/-- 'mempoollaw20.PoolPlays': WHATEVER THE INPUT: true; the input reads as it did. -/
def poolPlaysSpec : ChangeSpec := { name := "poolPlays", fn := fun _ => fun
  | [d1, d2] => { results := [.lit (.bool true)], args := [d1, d2] }
  | _ => none }
def poolPlaysRow : OpenClaim := { program := "ytnelmomagdcmnaagreat", sum := "1df2bca9c1a357783afe317eac861525142af249b95bd501c10c8125a466dd74", func := "mempool/mempoollaw20.PoolPlays", spec := "poolPlays", inPlace := ["slices.overlaps[mempool/sender.entry]", "slices.overlaps[mempool/expiry.wait]"], unfollowed := true, recurses := true, plainKeys := false, apart := false }
def PoolPlaysSaid : Prop := poolPlaysRow.holds Tryz.pinned (OpenSpec.ofChange poolPlaysSpec)

/-- ITS FALSE NEIGHBOUR: 'it returns false'. Refute it at one input. -/
def poolPlaysWrong : ChangeSpec := { name := "poolPlays", fn := fun _ => fun
  | [d1, d2] => { results := [.lit (.bool false)], args := [d1, d2] }
  | _ => none }
def PoolPlaysWrongFalsely : Prop := poolPlaysRow.holds Tryz.pinned (OpenSpec.ofChange poolPlaysWrong)

/-- 'mempoollaw20.PoolReads': WHATEVER THE INPUT: true; the input reads as it did. -/
def poolReadsSpec : ChangeSpec := { name := "poolReads", fn := fun _ => fun
  | [d1, d2, d3, d4, d5] => { results := [.lit (.bool true)], args := [d1, d2, d3, d4, d5] }
  | _ => none }
def poolReadsRow : OpenClaim := { program := "ytnelmomagdcmnaagreat", sum := "1df2bca9c1a357783afe317eac861525142af249b95bd501c10c8125a466dd74", func := "mempool/mempoollaw20.PoolReads", spec := "poolReads", inPlace := ["slices.overlaps[mempool/sender.entry]", "slices.overlaps[mempool/expiry.wait]"], unfollowed := true, recurses := true, plainKeys := false, apart := false }
def PoolReadsSaid : Prop := poolReadsRow.holds Tryz.pinned (OpenSpec.ofChange poolReadsSpec)

/-- ITS FALSE NEIGHBOUR: 'it returns false'. Refute it at one input. -/
def poolReadsWrong : ChangeSpec := { name := "poolReads", fn := fun _ => fun
  | [d1, d2, d3, d4, d5] => { results := [.lit (.bool false)], args := [d1, d2, d3, d4, d5] }
  | _ => none }
def PoolReadsWrongFalsely : Prop := poolReadsRow.holds Tryz.pinned (OpenSpec.ofChange poolReadsWrong)

/-- 'mempoollaw20.PoolAgrees': WHATEVER THE INPUT: true; the input reads as it did. -/
def poolAgreesSpec : ChangeSpec := { name := "poolAgrees", fn := fun _ => fun
  | [d] => { results := [.lit (.bool true)], args := [d] }
  | _ => none }
def poolAgreesRow : OpenClaim := { program := "ytnelmomagdcmnaagreat", sum := "1df2bca9c1a357783afe317eac861525142af249b95bd501c10c8125a466dd74", func := "mempool/mempoollaw20.PoolAgrees", spec := "poolAgrees", inPlace := ["slices.overlaps[mempool/sender.entry]", "slices.overlaps[mempool/expiry.wait]"], unfollowed := true, recurses := true, plainKeys := false, apart := false }
def PoolAgreesSaid : Prop := poolAgreesRow.holds Tryz.pinned (OpenSpec.ofChange poolAgreesSpec)

/-- ITS FALSE NEIGHBOUR: 'it returns false'. Refute it at one input. -/
def poolAgreesWrong : ChangeSpec := { name := "poolAgrees", fn := fun _ => fun
  | [d] => { results := [.lit (.bool false)], args := [d] }
  | _ => none }
def PoolAgreesWrongFalsely : Prop := poolAgreesRow.holds Tryz.pinned (OpenSpec.ofChange poolAgreesWrong)

/-- 'mempoollaw20.PoolRebuilds': WHATEVER THE INPUT: true; the input reads as it did. -/
def poolRebuildsSpec : ChangeSpec := { name := "poolRebuilds", fn := fun _ => fun
  | [d1, d2] => { results := [.lit (.bool true)], args := [d1, d2] }
  | _ => none }
def poolRebuildsRow : OpenClaim := { program := "ytnelmomagdcmnaagreat", sum := "1df2bca9c1a357783afe317eac861525142af249b95bd501c10c8125a466dd74", func := "mempool/mempoollaw20.PoolRebuilds", spec := "poolRebuilds", inPlace := ["slices.overlaps[mempool/sender.entry]", "slices.overlaps[mempool/expiry.wait]"], unfollowed := true, recurses := true, plainKeys := false, apart := false }
def PoolRebuildsSaid : Prop := poolRebuildsRow.holds Tryz.pinned (OpenSpec.ofChange poolRebuildsSpec)

/-- ITS FALSE NEIGHBOUR: 'it returns false'. Refute it at one input. -/
def poolRebuildsWrong : ChangeSpec := { name := "poolRebuilds", fn := fun _ => fun
  | [d1, d2] => { results := [.lit (.bool false)], args := [d1, d2] }
  | _ => none }
def PoolRebuildsWrongFalsely : Prop := poolRebuildsRow.holds Tryz.pinned (OpenSpec.ofChange poolRebuildsWrong)

/-- 'mempoollaw20.PoolApart': WHATEVER THE INPUT: true; the input reads as it did. -/
def poolApartSpec : ChangeSpec := { name := "poolApart", fn := fun _ => fun
  | [d1, d2] => { results := [.lit (.bool true)], args := [d1, d2] }
  | _ => none }
def poolApartRow : OpenClaim := { program := "ytnelmomagdcmnaagreat", sum := "1df2bca9c1a357783afe317eac861525142af249b95bd501c10c8125a466dd74", func := "mempool/mempoollaw20.PoolApart", spec := "poolApart", inPlace := ["slices.overlaps[mempool/sender.entry]", "slices.overlaps[mempool/expiry.wait]"], unfollowed := true, recurses := true, plainKeys := false, apart := false }
def PoolApartSaid : Prop := poolApartRow.holds Tryz.pinned (OpenSpec.ofChange poolApartSpec)

/-- ITS FALSE NEIGHBOUR: 'it returns false'. Refute it at one input. -/
def poolApartWrong : ChangeSpec := { name := "poolApart", fn := fun _ => fun
  | [d1, d2] => { results := [.lit (.bool false)], args := [d1, d2] }
  | _ => none }
def PoolApartWrongFalsely : Prop := poolApartRow.holds Tryz.pinned (OpenSpec.ofChange poolApartWrong)

/- THE SECOND FORM. 'bulk': how many values and letters a reading holds, each counted each time it is reached (what is shared counts as often as it is met; a slice's spare places count too). A statement '..UptoSaid' is the law's where the arguments, and the package variables that the reading takes, are together of bulk at most 1048576: NARROWER than '..Said'. Prove '..Said' where nothing that the law and all that it calls make is longer than what came in: it says more and counts as full. Else prove '..UptoSaid'. A law counts once. -/
mutual
def uptoBulk {H : Type} : DataW H → Nat
  | .lit (.string bytes) => bytes.length + 1
  | .lit _ => 1
  | .nil => 1
  | .ptr d => uptoBulk d + 1
  | .slice elems spare => uptoBulkAll elems + uptoBulkAll spare + 1
  | .agg parts => uptoBulkAll parts + 1
  | .iface _ d => uptoBulk d + 1
  | .map entries => uptoBulkEntries entries + 1
  | .held _ => 1
def uptoBulkAll {H : Type} : List (DataW H) → Nat
  | [] => 0
  | d :: r => uptoBulk d + uptoBulkAll r
def uptoBulkEntries {H : Type} : List (Lit × DataW H) → Nat
  | [] => 0
  | x :: r => uptoBulkEntry x + uptoBulkEntries r
def uptoBulkEntry {H : Type} : Lit × DataW H → Nat
  | (.string bytes, d) => bytes.length + uptoBulk d + 1
  | (_, d) => uptoBulk d + 1
 end
def uptoSmall : (H : Type) → List (DataW H) → Bool := fun _ ds => decide (uptoBulkAll ds ≤ 1048576)
def OpenSpec.upto (s : _root_.Go.ChangeSpec) : _root_.Go.OpenSpec := { _root_.Go.OpenSpec.ofChange s with cond := some uptoSmall }

/-- 'mempoollaw20.PoolPlays', WHERE WHAT IT READS IS OF BULK AT MOST 1048576: true; the input reads as it did. -/
def poolPlaysUptoRow : OpenClaim := { program := "ytnelmomagdcmnaagreat", sum := "1df2bca9c1a357783afe317eac861525142af249b95bd501c10c8125a466dd74", func := "mempool/mempoollaw20.PoolPlays", spec := "poolPlays", inPlace := ["slices.overlaps[mempool/sender.entry]", "slices.overlaps[mempool/expiry.wait]"], unfollowed := true, recurses := true, plainKeys := false, apart := false, narrowed := true }
def PoolPlaysUptoSaid : Prop := poolPlaysUptoRow.holds Tryz.pinned (OpenSpec.upto poolPlaysSpec)

/-- 'mempoollaw20.PoolReads', WHERE WHAT IT READS IS OF BULK AT MOST 1048576: true; the input reads as it did. -/
def poolReadsUptoRow : OpenClaim := { program := "ytnelmomagdcmnaagreat", sum := "1df2bca9c1a357783afe317eac861525142af249b95bd501c10c8125a466dd74", func := "mempool/mempoollaw20.PoolReads", spec := "poolReads", inPlace := ["slices.overlaps[mempool/sender.entry]", "slices.overlaps[mempool/expiry.wait]"], unfollowed := true, recurses := true, plainKeys := false, apart := false, narrowed := true }
def PoolReadsUptoSaid : Prop := poolReadsUptoRow.holds Tryz.pinned (OpenSpec.upto poolReadsSpec)

/-- 'mempoollaw20.PoolAgrees', WHERE WHAT IT READS IS OF BULK AT MOST 1048576: true; the input reads as it did. -/
def poolAgreesUptoRow : OpenClaim := { program := "ytnelmomagdcmnaagreat", sum := "1df2bca9c1a357783afe317eac861525142af249b95bd501c10c8125a466dd74", func := "mempool/mempoollaw20.PoolAgrees", spec := "poolAgrees", inPlace := ["slices.overlaps[mempool/sender.entry]", "slices.overlaps[mempool/expiry.wait]"], unfollowed := true, recurses := true, plainKeys := false, apart := false, narrowed := true }
def PoolAgreesUptoSaid : Prop := poolAgreesUptoRow.holds Tryz.pinned (OpenSpec.upto poolAgreesSpec)

/-- 'mempoollaw20.PoolRebuilds', WHERE WHAT IT READS IS OF BULK AT MOST 1048576: true; the input reads as it did. -/
def poolRebuildsUptoRow : OpenClaim := { program := "ytnelmomagdcmnaagreat", sum := "1df2bca9c1a357783afe317eac861525142af249b95bd501c10c8125a466dd74", func := "mempool/mempoollaw20.PoolRebuilds", spec := "poolRebuilds", inPlace := ["slices.overlaps[mempool/sender.entry]", "slices.overlaps[mempool/expiry.wait]"], unfollowed := true, recurses := true, plainKeys := false, apart := false, narrowed := true }
def PoolRebuildsUptoSaid : Prop := poolRebuildsUptoRow.holds Tryz.pinned (OpenSpec.upto poolRebuildsSpec)

/-- 'mempoollaw20.PoolApart', WHERE WHAT IT READS IS OF BULK AT MOST 1048576: true; the input reads as it did. -/
def poolApartUptoRow : OpenClaim := { program := "ytnelmomagdcmnaagreat", sum := "1df2bca9c1a357783afe317eac861525142af249b95bd501c10c8125a466dd74", func := "mempool/mempoollaw20.PoolApart", spec := "poolApart", inPlace := ["slices.overlaps[mempool/sender.entry]", "slices.overlaps[mempool/expiry.wait]"], unfollowed := true, recurses := true, plainKeys := false, apart := false, narrowed := true }
def PoolApartUptoSaid : Prop := poolApartUptoRow.holds Tryz.pinned (OpenSpec.upto poolApartSpec)

end Rows
end Go.Proofs.YtnelmomagdcmnaaGreat
