/-
  DERIVED. GIVEN WITH THE SEED: THE CARDS: each row of YtfpnnmeblefkkaaGreatDoorRows.lean that lists a variable, with what it lists TIED to the program's text (the seventh form; the later family's looks); each row that meets fmt, with fmt's text TOLD by the authors' own Lean function (tested against real Go, not proved from fmt's source: count such statements apart). THE CARD IS WHAT COUNTS. Prove the row's statement (the work); the ties are given (YtfpnnmeblefkkaaGreatDoorTie.lean); close each card by the builder's one call (the guide's Derived/Test/ToyasCard.lean, 'card_holds'). Laid BY PROGRAM, IN A SANDBOX (cutbox-door.mjs). By AI agents, Wed Nov 11 2026. No macro, syntax, notation, axiom, sorry.
-/
import Derived.Test.YtfpnnmeblefkkaaGreatDoorRows
import GoSem.ClaimSeven
namespace Go.Proofs.YtfpnnmeblefkkaaGreatDoor
namespace Rows

/-- THE TIED CARD OF 'mempoollaw14.FoldAll'. -/
def foldAllCard : Claim7 := { stood := { row := foldAllRow, standIns := [], harness := (true, "6dae5ef62069c1fc3ba6e0e574e5a744f1e27d887abf4afe5177be0ef7dd4125"), looks := true }, kinds := [], alts := [], laidByText := true, laidKinds := [.data, .data], laidTests := true, laidLooks := .later }
def FoldAllCardSaid : Prop := Claim7.holds Tryz.pinned (.plain (OpenSpec.ofChange foldAllSpec)) foldAllCard

/-- THE TIED CARD OF 'mempoollaw14.FoldStrict'. -/
def foldStrictCard : Claim7 := { stood := { row := foldStrictRow, standIns := [], harness := (true, "6dae5ef62069c1fc3ba6e0e574e5a744f1e27d887abf4afe5177be0ef7dd4125"), looks := true }, kinds := [], alts := [], laidByText := true, laidKinds := [.data, .data], laidTests := true, laidLooks := .later }
def FoldStrictCardSaid : Prop := Claim7.holds Tryz.pinned (.plain (OpenSpec.ofChange foldStrictSpec)) foldStrictCard

/-- THE TIED CARD OF 'mempoollaw14.FoldJoins'. -/
def foldJoinsCard : Claim7 := { stood := { row := foldJoinsRow, standIns := [], harness := (true, "6dae5ef62069c1fc3ba6e0e574e5a744f1e27d887abf4afe5177be0ef7dd4125"), looks := true }, kinds := [], alts := [], laidByText := true, laidKinds := [.data, .data], laidTests := true, laidLooks := .later }
def FoldJoinsCardSaid : Prop := Claim7.holds Tryz.pinned (.plain (OpenSpec.ofChange foldJoinsSpec)) foldJoinsCard

/-- THE TIED CARD OF 'mempoollaw14.FoldDigests'. -/
def foldDigestsCard : Claim7 := { stood := { row := foldDigestsRow, standIns := [], harness := (true, "6dae5ef62069c1fc3ba6e0e574e5a744f1e27d887abf4afe5177be0ef7dd4125"), looks := true }, kinds := [], alts := [], laidByText := true, laidKinds := [.data, .data], laidTests := true, laidLooks := .later }
def FoldDigestsCardSaid : Prop := Claim7.holds Tryz.pinned (.plain (OpenSpec.ofChange foldDigestsSpec)) foldDigestsCard

/-- THE SECOND FORM's CARD OF 'mempoollaw14.FoldAll'. -/
def foldAllUptoCard : Claim7 := { stood := { row := foldAllUptoRow, standIns := [], harness := (true, "6dae5ef62069c1fc3ba6e0e574e5a744f1e27d887abf4afe5177be0ef7dd4125"), looks := true }, kinds := [], alts := [], laidByText := true, laidKinds := [.data, .data], laidTests := true, laidLooks := .later }
def FoldAllUptoCardSaid : Prop := Claim7.holds Tryz.pinned (.plain (OpenSpec.upto foldAllSpec)) foldAllUptoCard

/-- THE SECOND FORM's CARD OF 'mempoollaw14.FoldStrict'. -/
def foldStrictUptoCard : Claim7 := { stood := { row := foldStrictUptoRow, standIns := [], harness := (true, "6dae5ef62069c1fc3ba6e0e574e5a744f1e27d887abf4afe5177be0ef7dd4125"), looks := true }, kinds := [], alts := [], laidByText := true, laidKinds := [.data, .data], laidTests := true, laidLooks := .later }
def FoldStrictUptoCardSaid : Prop := Claim7.holds Tryz.pinned (.plain (OpenSpec.upto foldStrictSpec)) foldStrictUptoCard

/-- THE SECOND FORM's CARD OF 'mempoollaw14.FoldJoins'. -/
def foldJoinsUptoCard : Claim7 := { stood := { row := foldJoinsUptoRow, standIns := [], harness := (true, "6dae5ef62069c1fc3ba6e0e574e5a744f1e27d887abf4afe5177be0ef7dd4125"), looks := true }, kinds := [], alts := [], laidByText := true, laidKinds := [.data, .data], laidTests := true, laidLooks := .later }
def FoldJoinsUptoCardSaid : Prop := Claim7.holds Tryz.pinned (.plain (OpenSpec.upto foldJoinsSpec)) foldJoinsUptoCard

/-- THE SECOND FORM's CARD OF 'mempoollaw14.FoldDigests'. -/
def foldDigestsUptoCard : Claim7 := { stood := { row := foldDigestsUptoRow, standIns := [], harness := (true, "6dae5ef62069c1fc3ba6e0e574e5a744f1e27d887abf4afe5177be0ef7dd4125"), looks := true }, kinds := [], alts := [], laidByText := true, laidKinds := [.data, .data], laidTests := true, laidLooks := .later }
def FoldDigestsUptoCardSaid : Prop := Claim7.holds Tryz.pinned (.plain (OpenSpec.upto foldDigestsSpec)) foldDigestsUptoCard
end Rows
end Go.Proofs.YtfpnnmeblefkkaaGreatDoor
