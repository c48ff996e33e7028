/-
  DERIVED. GIVEN WITH THE SEED: THE CARDS: each row of YtplfineaomneiaaDoorRows.lean that lists a variable, with what it lists TIED to the program's text (the seventh form; the later family's looks); each row that meets fmt, with fmt's text TOLD by the authors' own Lean function (tested against real Go, not proved from fmt's source: count such statements apart). THE CARD IS WHAT COUNTS. Prove the row's statement (the work); the ties are given (YtplfineaomneiaaDoorTie.lean); close each card by the builder's one call (the guide's Derived/Test/ToyasCard.lean, 'card_holds'). Laid BY PROGRAM, IN A SANDBOX (cutbox-door.mjs). By AI agents, Wed Nov 11 2026. No macro, syntax, notation, axiom, sorry.
-/
import Derived.Test.YtplfineaomneiaaDoorRows
import GoSem.ClaimSeven
namespace Go.Proofs.YtplfineaomneiaaDoor
namespace Rows

/-- THE TIED CARD OF 'mempoollaw19.ConfigValidates'. -/
def configValidatesCard : Claim7 := { stood := { row := configValidatesRow, standIns := [], harness := (true, "b7140874117ba1f07505b02c7f0406f52ac86b486154f4bcfc37e270f17c68f0"), looks := true }, kinds := [], alts := [], laidByText := true, laidKinds := [.data, .data, .data, .data, .sentinel, .sentinel, .pinned], laidTests := true, laidLooks := .later }
def ConfigValidatesCardSaid : Prop := Claim7.holds Tryd.pinned (.plain (OpenSpec.ofChange configValidatesSpec)) configValidatesCard

/-- THE TIED CARD OF 'mempoollaw19.ConfigFormats'. -/
def configFormatsCard : Claim7 := { stood := { row := configFormatsRow, standIns := [], harness := (true, "b7140874117ba1f07505b02c7f0406f52ac86b486154f4bcfc37e270f17c68f0"), looks := true }, kinds := [], alts := [], laidByText := true, laidKinds := [.data, .data, .data, .data, .sentinel, .sentinel, .pinned], laidTests := true, laidLooks := .later }
def ConfigFormatsCardSaid : Prop := Claim7.holds Tryd.pinned (.plain (OpenSpec.ofChange configFormatsSpec)) configFormatsCard

/-- THE TIED CARD OF 'mempoollaw19.ConfigParses'. -/
def configParsesCard : Claim7 := { stood := { row := configParsesRow, standIns := [], harness := (true, "b7140874117ba1f07505b02c7f0406f52ac86b486154f4bcfc37e270f17c68f0"), looks := true }, kinds := [], alts := [], laidByText := true, laidKinds := [.data, .data, .data, .data, .sentinel, .sentinel, .pinned], laidTests := true, laidLooks := .later }
def ConfigParsesCardSaid : Prop := Claim7.holds Tryd.pinned (.plain (OpenSpec.ofChange configParsesSpec)) configParsesCard

/-- THE TIED CARD OF 'mempoollaw19.ConfigSpaces'. -/
def configSpacesCard : Claim7 := { stood := { row := configSpacesRow, standIns := [], harness := (true, "b7140874117ba1f07505b02c7f0406f52ac86b486154f4bcfc37e270f17c68f0"), looks := true }, kinds := [], alts := [], laidByText := true, laidKinds := [.data, .data, .data, .data, .sentinel, .sentinel, .pinned], laidTests := true, laidLooks := .later }
def ConfigSpacesCardSaid : Prop := Claim7.holds Tryd.pinned (.plain (OpenSpec.ofChange configSpacesSpec)) configSpacesCard

/-- THE TIED CARD OF 'mempoollaw19.ConfigNumbers'. -/
def configNumbersCard : Claim7 := { stood := { row := configNumbersRow, standIns := [], harness := (true, "b7140874117ba1f07505b02c7f0406f52ac86b486154f4bcfc37e270f17c68f0"), looks := true }, kinds := [], alts := [], laidByText := true, laidKinds := [.data, .data, .data, .data, .sentinel, .sentinel, .pinned], laidTests := true, laidLooks := .later }
def ConfigNumbersCardSaid : Prop := Claim7.holds Tryd.pinned (.plain (OpenSpec.ofChange configNumbersSpec)) configNumbersCard

/-- THE TIED CARD OF 'mempoollaw19.ConfigLimits'. -/
def configLimitsCard : Claim7 := { stood := { row := configLimitsRow, standIns := [], harness := (true, "b7140874117ba1f07505b02c7f0406f52ac86b486154f4bcfc37e270f17c68f0"), looks := true }, kinds := [], alts := [], laidByText := true, laidKinds := [.data, .data, .data, .data, .sentinel, .sentinel, .pinned], laidTests := true, laidLooks := .later }
def ConfigLimitsCardSaid : Prop := Claim7.holds Tryd.pinned (.plain (OpenSpec.ofChange configLimitsSpec)) configLimitsCard

/-- THE SECOND FORM's CARD OF 'mempoollaw19.ConfigValidates'. -/
def configValidatesUptoCard : Claim7 := { stood := { row := configValidatesUptoRow, standIns := [], harness := (true, "b7140874117ba1f07505b02c7f0406f52ac86b486154f4bcfc37e270f17c68f0"), looks := true }, kinds := [], alts := [], laidByText := true, laidKinds := [.data, .data, .data, .data, .sentinel, .sentinel, .pinned], laidTests := true, laidLooks := .later }
def ConfigValidatesUptoCardSaid : Prop := Claim7.holds Tryd.pinned (.plain (OpenSpec.upto configValidatesSpec)) configValidatesUptoCard

/-- THE SECOND FORM's CARD OF 'mempoollaw19.ConfigFormats'. -/
def configFormatsUptoCard : Claim7 := { stood := { row := configFormatsUptoRow, standIns := [], harness := (true, "b7140874117ba1f07505b02c7f0406f52ac86b486154f4bcfc37e270f17c68f0"), looks := true }, kinds := [], alts := [], laidByText := true, laidKinds := [.data, .data, .data, .data, .sentinel, .sentinel, .pinned], laidTests := true, laidLooks := .later }
def ConfigFormatsUptoCardSaid : Prop := Claim7.holds Tryd.pinned (.plain (OpenSpec.upto configFormatsSpec)) configFormatsUptoCard

/-- THE SECOND FORM's CARD OF 'mempoollaw19.ConfigParses'. -/
def configParsesUptoCard : Claim7 := { stood := { row := configParsesUptoRow, standIns := [], harness := (true, "b7140874117ba1f07505b02c7f0406f52ac86b486154f4bcfc37e270f17c68f0"), looks := true }, kinds := [], alts := [], laidByText := true, laidKinds := [.data, .data, .data, .data, .sentinel, .sentinel, .pinned], laidTests := true, laidLooks := .later }
def ConfigParsesUptoCardSaid : Prop := Claim7.holds Tryd.pinned (.plain (OpenSpec.upto configParsesSpec)) configParsesUptoCard

/-- THE SECOND FORM's CARD OF 'mempoollaw19.ConfigSpaces'. -/
def configSpacesUptoCard : Claim7 := { stood := { row := configSpacesUptoRow, standIns := [], harness := (true, "b7140874117ba1f07505b02c7f0406f52ac86b486154f4bcfc37e270f17c68f0"), looks := true }, kinds := [], alts := [], laidByText := true, laidKinds := [.data, .data, .data, .data, .sentinel, .sentinel, .pinned], laidTests := true, laidLooks := .later }
def ConfigSpacesUptoCardSaid : Prop := Claim7.holds Tryd.pinned (.plain (OpenSpec.upto configSpacesSpec)) configSpacesUptoCard

/-- THE SECOND FORM's CARD OF 'mempoollaw19.ConfigNumbers'. -/
def configNumbersUptoCard : Claim7 := { stood := { row := configNumbersUptoRow, standIns := [], harness := (true, "b7140874117ba1f07505b02c7f0406f52ac86b486154f4bcfc37e270f17c68f0"), looks := true }, kinds := [], alts := [], laidByText := true, laidKinds := [.data, .data, .data, .data, .sentinel, .sentinel, .pinned], laidTests := true, laidLooks := .later }
def ConfigNumbersUptoCardSaid : Prop := Claim7.holds Tryd.pinned (.plain (OpenSpec.upto configNumbersSpec)) configNumbersUptoCard

/-- THE SECOND FORM's CARD OF 'mempoollaw19.ConfigLimits'. -/
def configLimitsUptoCard : Claim7 := { stood := { row := configLimitsUptoRow, standIns := [], harness := (true, "b7140874117ba1f07505b02c7f0406f52ac86b486154f4bcfc37e270f17c68f0"), looks := true }, kinds := [], alts := [], laidByText := true, laidKinds := [.data, .data, .data, .data, .sentinel, .sentinel, .pinned], laidTests := true, laidLooks := .later }
def ConfigLimitsUptoCardSaid : Prop := Claim7.holds Tryd.pinned (.plain (OpenSpec.upto configLimitsSpec)) configLimitsUptoCard
end Rows
end Go.Proofs.YtplfineaomneiaaDoor
