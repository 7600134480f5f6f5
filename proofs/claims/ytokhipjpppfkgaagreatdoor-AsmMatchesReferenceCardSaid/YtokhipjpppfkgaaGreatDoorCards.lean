/-
  DERIVED. GIVEN WITH THE SEED: THE CARDS: each row of YtokhipjpppfkgaaGreatDoorRows.lean that lists a variable, with what it lists TIED to the program's text (the seventh form; the later family's looks); each row that meets fmt, with fmt's text TOLD by the authors' own Lean function (tested against real Go, not proved from fmt's source: count such statements apart). THE CARD IS WHAT COUNTS. Prove the row's statement (the work); the ties are given (YtokhipjpppfkgaaGreatDoorTie.lean); close each card by the builder's one call (the guide's Derived/Test/ToyasCard.lean, 'card_holds'). Laid BY PROGRAM, IN A SANDBOX (cutbox-door.mjs). By AI agents, Wed Nov 11 2026. No macro, syntax, notation, axiom, sorry.
-/
import Derived.Test.YtokhipjpppfkgaaGreatDoorRows
import GoSem.ClaimSeven
namespace Go.Proofs.YtokhipjpppfkgaaGreatDoor
namespace Rows

/-- THE TIED CARD OF 'gaolerlaw03.AsmMatchesReference'. -/
def asmMatchesReferenceCard : Claim7 := { stood := { row := asmMatchesReferenceRow, standIns := [], harness := (true, "6b4c985ef5ffeceff2934c3e60ecb0fe3e3e40257734e07cfa4038ce10039913"), looks := true }, kinds := [], alts := [], laidByText := true, laidKinds := [.data, .data, .data, .data, .data, .data, .sentinel, .sentinel, .data, .pinned], laidTests := true, laidLooks := .later }
def AsmMatchesReferenceCardSaid : Prop := Claim7.holds Tryz.pinned (.plain (OpenSpec.ofChange asmMatchesReferenceSpec)) asmMatchesReferenceCard

/-- THE TIED CARD OF 'gaolerlaw03.AsmAssembleDisassemble'. -/
def asmAssembleDisassembleCard : Claim7 := { stood := { row := asmAssembleDisassembleRow, standIns := [], harness := (true, "6b4c985ef5ffeceff2934c3e60ecb0fe3e3e40257734e07cfa4038ce10039913"), looks := true }, kinds := [], alts := [], laidByText := true, laidKinds := [.data, .data, .data, .data, .data, .data, .sentinel, .sentinel, .data, .pinned], laidTests := true, laidLooks := .later }
def AsmAssembleDisassembleCardSaid : Prop := Claim7.holds Tryz.pinned (.plain (OpenSpec.ofChange asmAssembleDisassembleSpec)) asmAssembleDisassembleCard

/-- THE TIED CARD OF 'gaolerlaw03.AsmParseFormat'. -/
def asmParseFormatCard : Claim7 := { stood := { row := asmParseFormatRow, standIns := [], harness := (true, "6b4c985ef5ffeceff2934c3e60ecb0fe3e3e40257734e07cfa4038ce10039913"), looks := true }, kinds := [], alts := [], laidByText := true, laidKinds := [.data, .data, .data, .data, .data, .data, .sentinel, .sentinel, .data, .pinned], laidTests := true, laidLooks := .later }
def AsmParseFormatCardSaid : Prop := Claim7.holds Tryz.pinned (.plain (OpenSpec.ofChange asmParseFormatSpec)) asmParseFormatCard

/-- THE TIED CARD OF 'gaolerlaw03.AsmLinesAndErrors'. -/
def asmLinesAndErrorsCard : Claim7 := { stood := { row := asmLinesAndErrorsRow, standIns := [], harness := (true, "6b4c985ef5ffeceff2934c3e60ecb0fe3e3e40257734e07cfa4038ce10039913"), looks := true }, kinds := [], alts := [], laidByText := true, laidKinds := [.data, .data, .data, .data, .data, .data, .sentinel, .sentinel, .data, .pinned], laidTests := true, laidLooks := .later }
def AsmLinesAndErrorsCardSaid : Prop := Claim7.holds Tryz.pinned (.plain (OpenSpec.ofChange asmLinesAndErrorsSpec)) asmLinesAndErrorsCard

/-- THE TIED CARD OF 'gaolerlaw03.AsmEveryWordHasOneLine'. -/
def asmEveryWordHasOneLineCard : Claim7 := { stood := { row := asmEveryWordHasOneLineRow, standIns := [], harness := (true, "6b4c985ef5ffeceff2934c3e60ecb0fe3e3e40257734e07cfa4038ce10039913"), looks := true }, kinds := [], alts := [], laidByText := true, laidKinds := [.data, .data, .data, .data, .data, .data, .sentinel, .sentinel, .data, .pinned], laidTests := true, laidLooks := .later }
def AsmEveryWordHasOneLineCardSaid : Prop := Claim7.holds Tryz.pinned (.plain (OpenSpec.ofChange asmEveryWordHasOneLineSpec)) asmEveryWordHasOneLineCard

/-- THE SECOND FORM's CARD OF 'gaolerlaw03.AsmMatchesReference'. -/
def asmMatchesReferenceUptoCard : Claim7 := { stood := { row := asmMatchesReferenceUptoRow, standIns := [], harness := (true, "6b4c985ef5ffeceff2934c3e60ecb0fe3e3e40257734e07cfa4038ce10039913"), looks := true }, kinds := [], alts := [], laidByText := true, laidKinds := [.data, .data, .data, .data, .data, .data, .sentinel, .sentinel, .data, .pinned], laidTests := true, laidLooks := .later }
def AsmMatchesReferenceUptoCardSaid : Prop := Claim7.holds Tryz.pinned (.plain (OpenSpec.upto asmMatchesReferenceSpec)) asmMatchesReferenceUptoCard

/-- THE SECOND FORM's CARD OF 'gaolerlaw03.AsmAssembleDisassemble'. -/
def asmAssembleDisassembleUptoCard : Claim7 := { stood := { row := asmAssembleDisassembleUptoRow, standIns := [], harness := (true, "6b4c985ef5ffeceff2934c3e60ecb0fe3e3e40257734e07cfa4038ce10039913"), looks := true }, kinds := [], alts := [], laidByText := true, laidKinds := [.data, .data, .data, .data, .data, .data, .sentinel, .sentinel, .data, .pinned], laidTests := true, laidLooks := .later }
def AsmAssembleDisassembleUptoCardSaid : Prop := Claim7.holds Tryz.pinned (.plain (OpenSpec.upto asmAssembleDisassembleSpec)) asmAssembleDisassembleUptoCard

/-- THE SECOND FORM's CARD OF 'gaolerlaw03.AsmParseFormat'. -/
def asmParseFormatUptoCard : Claim7 := { stood := { row := asmParseFormatUptoRow, standIns := [], harness := (true, "6b4c985ef5ffeceff2934c3e60ecb0fe3e3e40257734e07cfa4038ce10039913"), looks := true }, kinds := [], alts := [], laidByText := true, laidKinds := [.data, .data, .data, .data, .data, .data, .sentinel, .sentinel, .data, .pinned], laidTests := true, laidLooks := .later }
def AsmParseFormatUptoCardSaid : Prop := Claim7.holds Tryz.pinned (.plain (OpenSpec.upto asmParseFormatSpec)) asmParseFormatUptoCard

/-- THE SECOND FORM's CARD OF 'gaolerlaw03.AsmLinesAndErrors'. -/
def asmLinesAndErrorsUptoCard : Claim7 := { stood := { row := asmLinesAndErrorsUptoRow, standIns := [], harness := (true, "6b4c985ef5ffeceff2934c3e60ecb0fe3e3e40257734e07cfa4038ce10039913"), looks := true }, kinds := [], alts := [], laidByText := true, laidKinds := [.data, .data, .data, .data, .data, .data, .sentinel, .sentinel, .data, .pinned], laidTests := true, laidLooks := .later }
def AsmLinesAndErrorsUptoCardSaid : Prop := Claim7.holds Tryz.pinned (.plain (OpenSpec.upto asmLinesAndErrorsSpec)) asmLinesAndErrorsUptoCard

/-- THE SECOND FORM's CARD OF 'gaolerlaw03.AsmEveryWordHasOneLine'. -/
def asmEveryWordHasOneLineUptoCard : Claim7 := { stood := { row := asmEveryWordHasOneLineUptoRow, standIns := [], harness := (true, "6b4c985ef5ffeceff2934c3e60ecb0fe3e3e40257734e07cfa4038ce10039913"), looks := true }, kinds := [], alts := [], laidByText := true, laidKinds := [.data, .data, .data, .data, .data, .data, .sentinel, .sentinel, .data, .pinned], laidTests := true, laidLooks := .later }
def AsmEveryWordHasOneLineUptoCardSaid : Prop := Claim7.holds Tryz.pinned (.plain (OpenSpec.upto asmEveryWordHasOneLineSpec)) asmEveryWordHasOneLineUptoCard
end Rows
end Go.Proofs.YtokhipjpppfkgaaGreatDoor
