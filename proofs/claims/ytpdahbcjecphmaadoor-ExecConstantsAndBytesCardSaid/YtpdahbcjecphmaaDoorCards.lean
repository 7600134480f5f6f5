/-
  DERIVED. GIVEN WITH THE SEED: THE CARDS: each row of YtpdahbcjecphmaaDoorRows.lean that lists a variable, with what it lists TIED to the program's text (the seventh form; the later family's looks); each row that meets fmt, with fmt's text TOLD by the authors' own Lean function (tested against real Go, not proved from fmt's source: count such statements apart). THE CARD IS WHAT COUNTS. Prove the row's statement (the work); the ties are given (YtpdahbcjecphmaaDoorTie.lean); close each card by the builder's one call (the guide's Derived/Test/ToyasCard.lean, 'card_holds'). Laid BY PROGRAM, IN A SANDBOX (cutbox-door.mjs). By AI agents, Wed Nov 11 2026. No macro, syntax, notation, axiom, sorry.
-/
import Derived.Test.YtpdahbcjecphmaaDoorRows
import GoSem.ClaimSeven
namespace Go.Proofs.YtpdahbcjecphmaaDoor
namespace Rows

/-- THE TIED CARD OF 'gaolerlaw11.ExecuteMatchesReference'. -/
def executeMatchesReferenceCard : Claim7 := { stood := { row := executeMatchesReferenceRow, standIns := [], harness := (true, "91e72f67f80a65227298d3539401025c22714d779c4228c5751d5c899ac93c42"), looks := false }, kinds := [], alts := [], laidByText := true, laidKinds := [.data, .data], laidTests := true, laidLooks := .later }
def ExecuteMatchesReferenceCardSaid : Prop := Claim7.holds Tryd.pinned (.plain (OpenSpec.ofChange executeMatchesReferenceSpec)) executeMatchesReferenceCard

/-- THE TIED CARD OF 'gaolerlaw11.ExecuteFrame'. -/
def executeFrameCard : Claim7 := { stood := { row := executeFrameRow, standIns := [], harness := (true, "91e72f67f80a65227298d3539401025c22714d779c4228c5751d5c899ac93c42"), looks := false }, kinds := [], alts := [], laidByText := true, laidKinds := [.data, .data], laidTests := true, laidLooks := .later }
def ExecuteFrameCardSaid : Prop := Claim7.holds Tryd.pinned (.plain (OpenSpec.ofChange executeFrameSpec)) executeFrameCard

/-- THE TIED CARD OF 'gaolerlaw11.ExecCallAndBranch'. -/
def execCallAndBranchCard : Claim7 := { stood := { row := execCallAndBranchRow, standIns := [], harness := (true, "91e72f67f80a65227298d3539401025c22714d779c4228c5751d5c899ac93c42"), looks := false }, kinds := [], alts := [], laidByText := true, laidKinds := [.data, .data], laidTests := true, laidLooks := .later }
def ExecCallAndBranchCardSaid : Prop := Claim7.holds Tryd.pinned (.plain (OpenSpec.ofChange execCallAndBranchSpec)) execCallAndBranchCard

/-- THE TIED CARD OF 'gaolerlaw11.ExecConstantsAndBytes'. -/
def execConstantsAndBytesCard : Claim7 := { stood := { row := execConstantsAndBytesRow, standIns := [], harness := (true, "91e72f67f80a65227298d3539401025c22714d779c4228c5751d5c899ac93c42"), looks := false }, kinds := [], alts := [], laidByText := true, laidKinds := [.data, .data], laidTests := true, laidLooks := .later }
def ExecConstantsAndBytesCardSaid : Prop := Claim7.holds Tryd.pinned (.plain (OpenSpec.ofChange execConstantsAndBytesSpec)) execConstantsAndBytesCard

/-- THE TIED CARD OF 'gaolerlaw11.ExecStoreThenLoadWord'. -/
def execStoreThenLoadWordCard : Claim7 := { stood := { row := execStoreThenLoadWordRow, standIns := [], harness := (true, "91e72f67f80a65227298d3539401025c22714d779c4228c5751d5c899ac93c42"), looks := false }, kinds := [], alts := [], laidByText := true, laidKinds := [.data, .data], laidTests := true, laidLooks := .later }
def ExecStoreThenLoadWordCardSaid : Prop := Claim7.holds Tryd.pinned (.plain (OpenSpec.ofChange execStoreThenLoadWordSpec)) execStoreThenLoadWordCard

/-- THE TIED CARD OF 'gaolerlaw11.ExecInstructionsIgnoreTime'. -/
def execInstructionsIgnoreTimeCard : Claim7 := { stood := { row := execInstructionsIgnoreTimeRow, standIns := [], harness := (true, "91e72f67f80a65227298d3539401025c22714d779c4228c5751d5c899ac93c42"), looks := false }, kinds := [], alts := [], laidByText := true, laidKinds := [.data, .data], laidTests := true, laidLooks := .later }
def ExecInstructionsIgnoreTimeCardSaid : Prop := Claim7.holds Tryd.pinned (.plain (OpenSpec.ofChange execInstructionsIgnoreTimeSpec)) execInstructionsIgnoreTimeCard

/-- THE SECOND FORM's CARD OF 'gaolerlaw11.ExecuteMatchesReference'. -/
def executeMatchesReferenceUptoCard : Claim7 := { stood := { row := executeMatchesReferenceUptoRow, standIns := [], harness := (true, "91e72f67f80a65227298d3539401025c22714d779c4228c5751d5c899ac93c42"), looks := false }, kinds := [], alts := [], laidByText := true, laidKinds := [.data, .data], laidTests := true, laidLooks := .later }
def ExecuteMatchesReferenceUptoCardSaid : Prop := Claim7.holds Tryd.pinned (.plain (OpenSpec.upto executeMatchesReferenceSpec)) executeMatchesReferenceUptoCard

/-- THE SECOND FORM's CARD OF 'gaolerlaw11.ExecuteFrame'. -/
def executeFrameUptoCard : Claim7 := { stood := { row := executeFrameUptoRow, standIns := [], harness := (true, "91e72f67f80a65227298d3539401025c22714d779c4228c5751d5c899ac93c42"), looks := false }, kinds := [], alts := [], laidByText := true, laidKinds := [.data, .data], laidTests := true, laidLooks := .later }
def ExecuteFrameUptoCardSaid : Prop := Claim7.holds Tryd.pinned (.plain (OpenSpec.upto executeFrameSpec)) executeFrameUptoCard

/-- THE SECOND FORM's CARD OF 'gaolerlaw11.ExecCallAndBranch'. -/
def execCallAndBranchUptoCard : Claim7 := { stood := { row := execCallAndBranchUptoRow, standIns := [], harness := (true, "91e72f67f80a65227298d3539401025c22714d779c4228c5751d5c899ac93c42"), looks := false }, kinds := [], alts := [], laidByText := true, laidKinds := [.data, .data], laidTests := true, laidLooks := .later }
def ExecCallAndBranchUptoCardSaid : Prop := Claim7.holds Tryd.pinned (.plain (OpenSpec.upto execCallAndBranchSpec)) execCallAndBranchUptoCard

/-- THE SECOND FORM's CARD OF 'gaolerlaw11.ExecConstantsAndBytes'. -/
def execConstantsAndBytesUptoCard : Claim7 := { stood := { row := execConstantsAndBytesUptoRow, standIns := [], harness := (true, "91e72f67f80a65227298d3539401025c22714d779c4228c5751d5c899ac93c42"), looks := false }, kinds := [], alts := [], laidByText := true, laidKinds := [.data, .data], laidTests := true, laidLooks := .later }
def ExecConstantsAndBytesUptoCardSaid : Prop := Claim7.holds Tryd.pinned (.plain (OpenSpec.upto execConstantsAndBytesSpec)) execConstantsAndBytesUptoCard

/-- THE SECOND FORM's CARD OF 'gaolerlaw11.ExecStoreThenLoadWord'. -/
def execStoreThenLoadWordUptoCard : Claim7 := { stood := { row := execStoreThenLoadWordUptoRow, standIns := [], harness := (true, "91e72f67f80a65227298d3539401025c22714d779c4228c5751d5c899ac93c42"), looks := false }, kinds := [], alts := [], laidByText := true, laidKinds := [.data, .data], laidTests := true, laidLooks := .later }
def ExecStoreThenLoadWordUptoCardSaid : Prop := Claim7.holds Tryd.pinned (.plain (OpenSpec.upto execStoreThenLoadWordSpec)) execStoreThenLoadWordUptoCard

/-- THE SECOND FORM's CARD OF 'gaolerlaw11.ExecInstructionsIgnoreTime'. -/
def execInstructionsIgnoreTimeUptoCard : Claim7 := { stood := { row := execInstructionsIgnoreTimeUptoRow, standIns := [], harness := (true, "91e72f67f80a65227298d3539401025c22714d779c4228c5751d5c899ac93c42"), looks := false }, kinds := [], alts := [], laidByText := true, laidKinds := [.data, .data], laidTests := true, laidLooks := .later }
def ExecInstructionsIgnoreTimeUptoCardSaid : Prop := Claim7.holds Tryd.pinned (.plain (OpenSpec.upto execInstructionsIgnoreTimeSpec)) execInstructionsIgnoreTimeUptoCard
end Rows
end Go.Proofs.YtpdahbcjecphmaaDoor
