/-
  DERIVED. GIVEN WITH THE SEED: THE CARDS: each row of YtfmfoangndladaaDoorRows.lean that lists a variable, with what it lists TIED to the program's text (the seventh form; the later family's looks); each row that meets fmt, with fmt's text TOLD by the authors' own Lean function (tested against real Go, not proved from fmt's source: count such statements apart). THE CARD IS WHAT COUNTS. Prove the row's statement (the work); the ties are given (YtfmfoangndladaaDoorTie.lean); close each card by the builder's one call (the guide's Derived/Test/ToyasCard.lean, 'card_holds'). Laid BY PROGRAM, IN A SANDBOX (cutbox-door.mjs). By AI agents, Wed Nov 11 2026. No macro, syntax, notation, axiom, sorry.
-/
import Derived.Test.YtfmfoangndladaaDoorRows
import GoSem.ClaimSeven
namespace Go.Proofs.YtfmfoangndladaaDoor
namespace Rows

/-- THE TIED CARD OF 'mempoollaw4.ShaSums'. -/
def shaSumsCard : Claim7 := { stood := { row := shaSumsRow, standIns := [], harness := (true, "9a33f89526a8d678de405eae18e85ca7ca0c393d57c53b1f686221e1c8123df2"), looks := false }, kinds := [], alts := [], laidByText := true, laidKinds := [.data, .data], laidTests := true, laidLooks := .later }
def ShaSumsCardSaid : Prop := Claim7.holds Tryd.pinned (.plain (OpenSpec.ofChange shaSumsSpec)) shaSumsCard

/-- THE TIED CARD OF 'mempoollaw4.ShaStreams'. -/
def shaStreamsCard : Claim7 := { stood := { row := shaStreamsRow, standIns := [], harness := (true, "9a33f89526a8d678de405eae18e85ca7ca0c393d57c53b1f686221e1c8123df2"), looks := false }, kinds := [], alts := [], laidByText := true, laidKinds := [.data, .data], laidTests := true, laidLooks := .later }
def ShaStreamsCardSaid : Prop := Claim7.holds Tryd.pinned (.plain (OpenSpec.ofChange shaStreamsSpec)) shaStreamsCard

/-- THE TIED CARD OF 'mempoollaw4.ShaIndependent'. -/
def shaIndependentCard : Claim7 := { stood := { row := shaIndependentRow, standIns := [], harness := (true, "9a33f89526a8d678de405eae18e85ca7ca0c393d57c53b1f686221e1c8123df2"), looks := false }, kinds := [], alts := [], laidByText := true, laidKinds := [.data, .data], laidTests := true, laidLooks := .later }
def ShaIndependentCardSaid : Prop := Claim7.holds Tryd.pinned (.plain (OpenSpec.ofChange shaIndependentSpec)) shaIndependentCard

/-- THE TIED CARD OF 'mempoollaw4.ShaBlocks'. -/
def shaBlocksCard : Claim7 := { stood := { row := shaBlocksRow, standIns := [], harness := (true, "9a33f89526a8d678de405eae18e85ca7ca0c393d57c53b1f686221e1c8123df2"), looks := false }, kinds := [], alts := [], laidByText := true, laidKinds := [.data, .data], laidTests := true, laidLooks := .later }
def ShaBlocksCardSaid : Prop := Claim7.holds Tryd.pinned (.plain (OpenSpec.ofChange shaBlocksSpec)) shaBlocksCard

/-- THE SECOND FORM's CARD OF 'mempoollaw4.ShaSums'. -/
def shaSumsUptoCard : Claim7 := { stood := { row := shaSumsUptoRow, standIns := [], harness := (true, "9a33f89526a8d678de405eae18e85ca7ca0c393d57c53b1f686221e1c8123df2"), looks := false }, kinds := [], alts := [], laidByText := true, laidKinds := [.data, .data], laidTests := true, laidLooks := .later }
def ShaSumsUptoCardSaid : Prop := Claim7.holds Tryd.pinned (.plain (OpenSpec.upto shaSumsSpec)) shaSumsUptoCard

/-- THE SECOND FORM's CARD OF 'mempoollaw4.ShaStreams'. -/
def shaStreamsUptoCard : Claim7 := { stood := { row := shaStreamsUptoRow, standIns := [], harness := (true, "9a33f89526a8d678de405eae18e85ca7ca0c393d57c53b1f686221e1c8123df2"), looks := false }, kinds := [], alts := [], laidByText := true, laidKinds := [.data, .data], laidTests := true, laidLooks := .later }
def ShaStreamsUptoCardSaid : Prop := Claim7.holds Tryd.pinned (.plain (OpenSpec.upto shaStreamsSpec)) shaStreamsUptoCard

/-- THE SECOND FORM's CARD OF 'mempoollaw4.ShaIndependent'. -/
def shaIndependentUptoCard : Claim7 := { stood := { row := shaIndependentUptoRow, standIns := [], harness := (true, "9a33f89526a8d678de405eae18e85ca7ca0c393d57c53b1f686221e1c8123df2"), looks := false }, kinds := [], alts := [], laidByText := true, laidKinds := [.data, .data], laidTests := true, laidLooks := .later }
def ShaIndependentUptoCardSaid : Prop := Claim7.holds Tryd.pinned (.plain (OpenSpec.upto shaIndependentSpec)) shaIndependentUptoCard

/-- THE SECOND FORM's CARD OF 'mempoollaw4.ShaBlocks'. -/
def shaBlocksUptoCard : Claim7 := { stood := { row := shaBlocksUptoRow, standIns := [], harness := (true, "9a33f89526a8d678de405eae18e85ca7ca0c393d57c53b1f686221e1c8123df2"), looks := false }, kinds := [], alts := [], laidByText := true, laidKinds := [.data, .data], laidTests := true, laidLooks := .later }
def ShaBlocksUptoCardSaid : Prop := Claim7.holds Tryd.pinned (.plain (OpenSpec.upto shaBlocksSpec)) shaBlocksUptoCard
end Rows
end Go.Proofs.YtfmfoangndladaaDoor
