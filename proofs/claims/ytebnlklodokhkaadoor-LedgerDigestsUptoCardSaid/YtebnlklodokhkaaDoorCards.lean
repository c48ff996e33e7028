/-
  DERIVED. GIVEN WITH THE SEED: THE CARDS: each row of YtebnlklodokhkaaDoorRows.lean that lists a variable, with what it lists TIED to the program's text (the seventh form; the later family's looks); each row that meets fmt, with fmt's text TOLD by the authors' own Lean function (tested against real Go, not proved from fmt's source: count such statements apart). THE CARD IS WHAT COUNTS. Prove the row's statement (the work); the ties are given (YtebnlklodokhkaaDoorTie.lean); close each card by the builder's one call (the guide's Derived/Test/ToyasCard.lean, 'card_holds'). Laid BY PROGRAM, IN A SANDBOX (cutbox-door.mjs). By AI agents, Wed Nov 11 2026. No macro, syntax, notation, axiom, sorry.
-/
import Derived.Test.YtebnlklodokhkaaDoorRows
import GoSem.ClaimSeven
namespace Go.Proofs.YtebnlklodokhkaaDoor
namespace Rows

/-- THE TIED CARD OF 'mempoollaw11.LedgerDigests'. -/
def ledgerDigestsCard : Claim7 := { stood := { row := ledgerDigestsRow, standIns := [], harness := (true, "d678360652ca63540ca91df86507b68a4186e4cc5202ea01fd592949d29dc10d"), looks := false }, kinds := [], alts := [], laidByText := true, laidKinds := [.data, .data], laidTests := true, laidLooks := .later }
def LedgerDigestsCardSaid : Prop := Claim7.holds Tryd.pinned (.plain (OpenSpec.ofChange ledgerDigestsSpec)) ledgerDigestsCard

/-- THE SECOND FORM's CARD OF 'mempoollaw11.LedgerDigests'. -/
def ledgerDigestsUptoCard : Claim7 := { stood := { row := ledgerDigestsUptoRow, standIns := [], harness := (true, "d678360652ca63540ca91df86507b68a4186e4cc5202ea01fd592949d29dc10d"), looks := false }, kinds := [], alts := [], laidByText := true, laidKinds := [.data, .data], laidTests := true, laidLooks := .later }
def LedgerDigestsUptoCardSaid : Prop := Claim7.holds Tryd.pinned (.plain (OpenSpec.upto ledgerDigestsSpec)) ledgerDigestsUptoCard
end Rows
end Go.Proofs.YtebnlklodokhkaaDoor
