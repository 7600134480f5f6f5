/-
  DERIVED. GIVEN WITH THE SEED: THE CARDS: each row of YtjbnflalngjfaaaGreatDoorRows.lean that lists a variable, with what it lists TIED to the program's text (the seventh form; the later family's looks); each row that meets fmt, with fmt's text TOLD by the authors' own Lean function (tested against real Go, not proved from fmt's source: count such statements apart). THE CARD IS WHAT COUNTS. Prove the row's statement (the work); the ties are given (YtjbnflalngjfaaaGreatDoorTie.lean); close each card by the builder's one call (the guide's Derived/Test/ToyasCard.lean, 'card_holds'). Laid BY PROGRAM, IN A SANDBOX (cutbox-door.mjs). By AI agents, Wed Nov 11 2026. No macro, syntax, notation, axiom, sorry.
-/
import Derived.Test.YtjbnflalngjfaaaGreatDoorRows
import GoSem.ClaimSeven
namespace Go.Proofs.YtjbnflalngjfaaaGreatDoor
namespace Rows

/-- THE TIED CARD OF 'gaolerlaw13.StepMatchesReference'. -/
def stepMatchesReferenceCard : Claim7 := { stood := { row := stepMatchesReferenceRow, standIns := [], harness := (true, "8ffe0c46f9e92efb28c84b61b42d6714ec4442e8e8d9bdcf048d53b195bf4d9d"), looks := false }, kinds := [], alts := [], laidByText := true, laidKinds := [.data, .data, .data], laidTests := true, laidLooks := .later }
def StepMatchesReferenceCardSaid : Prop := Claim7.holds Tryz.pinned (.plain (OpenSpec.ofChange stepMatchesReferenceSpec)) stepMatchesReferenceCard

/-- THE TIED CARD OF 'gaolerlaw13.StepFrame'. -/
def stepFrameCard : Claim7 := { stood := { row := stepFrameRow, standIns := [], harness := (true, "8ffe0c46f9e92efb28c84b61b42d6714ec4442e8e8d9bdcf048d53b195bf4d9d"), looks := false }, kinds := [], alts := [], laidByText := true, laidKinds := [.data, .data, .data], laidTests := true, laidLooks := .later }
def StepFrameCardSaid : Prop := Claim7.holds Tryz.pinned (.plain (OpenSpec.ofChange stepFrameSpec)) stepFrameCard

/-- THE TIED CARD OF 'gaolerlaw13.StepTrapPriority'. -/
def stepTrapPriorityCard : Claim7 := { stood := { row := stepTrapPriorityRow, standIns := [], harness := (true, "8ffe0c46f9e92efb28c84b61b42d6714ec4442e8e8d9bdcf048d53b195bf4d9d"), looks := false }, kinds := [], alts := [], laidByText := true, laidKinds := [.data, .data, .data], laidTests := true, laidLooks := .later }
def StepTrapPriorityCardSaid : Prop := Claim7.holds Tryz.pinned (.plain (OpenSpec.ofChange stepTrapPrioritySpec)) stepTrapPriorityCard

/-- THE TIED CARD OF 'gaolerlaw13.StepUserModeConfinement'. -/
def stepUserModeConfinementCard : Claim7 := { stood := { row := stepUserModeConfinementRow, standIns := [], harness := (true, "8ffe0c46f9e92efb28c84b61b42d6714ec4442e8e8d9bdcf048d53b195bf4d9d"), looks := false }, kinds := [], alts := [], laidByText := true, laidKinds := [.data, .data, .data], laidTests := true, laidLooks := .later }
def StepUserModeConfinementCardSaid : Prop := Claim7.holds Tryz.pinned (.plain (OpenSpec.ofChange stepUserModeConfinementSpec)) stepUserModeConfinementCard

/-- THE TIED CARD OF 'gaolerlaw13.StepTimerHasPriority'. -/
def stepTimerHasPriorityCard : Claim7 := { stood := { row := stepTimerHasPriorityRow, standIns := [], harness := (true, "8ffe0c46f9e92efb28c84b61b42d6714ec4442e8e8d9bdcf048d53b195bf4d9d"), looks := false }, kinds := [], alts := [], laidByText := true, laidKinds := [.data, .data, .data], laidTests := true, laidLooks := .later }
def StepTimerHasPriorityCardSaid : Prop := Claim7.holds Tryz.pinned (.plain (OpenSpec.ofChange stepTimerHasPrioritySpec)) stepTimerHasPriorityCard

/-- THE TIED CARD OF 'gaolerlaw13.StepModeNeverRises'. -/
def stepModeNeverRisesCard : Claim7 := { stood := { row := stepModeNeverRisesRow, standIns := [], harness := (true, "8ffe0c46f9e92efb28c84b61b42d6714ec4442e8e8d9bdcf048d53b195bf4d9d"), looks := false }, kinds := [], alts := [], laidByText := true, laidKinds := [.data, .data, .data], laidTests := true, laidLooks := .later }
def StepModeNeverRisesCardSaid : Prop := Claim7.holds Tryz.pinned (.plain (OpenSpec.ofChange stepModeNeverRisesSpec)) stepModeNeverRisesCard

/-- THE SECOND FORM's CARD OF 'gaolerlaw13.StepMatchesReference'. -/
def stepMatchesReferenceUptoCard : Claim7 := { stood := { row := stepMatchesReferenceUptoRow, standIns := [], harness := (true, "8ffe0c46f9e92efb28c84b61b42d6714ec4442e8e8d9bdcf048d53b195bf4d9d"), looks := false }, kinds := [], alts := [], laidByText := true, laidKinds := [.data, .data, .data], laidTests := true, laidLooks := .later }
def StepMatchesReferenceUptoCardSaid : Prop := Claim7.holds Tryz.pinned (.plain (OpenSpec.upto stepMatchesReferenceSpec)) stepMatchesReferenceUptoCard

/-- THE SECOND FORM's CARD OF 'gaolerlaw13.StepFrame'. -/
def stepFrameUptoCard : Claim7 := { stood := { row := stepFrameUptoRow, standIns := [], harness := (true, "8ffe0c46f9e92efb28c84b61b42d6714ec4442e8e8d9bdcf048d53b195bf4d9d"), looks := false }, kinds := [], alts := [], laidByText := true, laidKinds := [.data, .data, .data], laidTests := true, laidLooks := .later }
def StepFrameUptoCardSaid : Prop := Claim7.holds Tryz.pinned (.plain (OpenSpec.upto stepFrameSpec)) stepFrameUptoCard

/-- THE SECOND FORM's CARD OF 'gaolerlaw13.StepTrapPriority'. -/
def stepTrapPriorityUptoCard : Claim7 := { stood := { row := stepTrapPriorityUptoRow, standIns := [], harness := (true, "8ffe0c46f9e92efb28c84b61b42d6714ec4442e8e8d9bdcf048d53b195bf4d9d"), looks := false }, kinds := [], alts := [], laidByText := true, laidKinds := [.data, .data, .data], laidTests := true, laidLooks := .later }
def StepTrapPriorityUptoCardSaid : Prop := Claim7.holds Tryz.pinned (.plain (OpenSpec.upto stepTrapPrioritySpec)) stepTrapPriorityUptoCard

/-- THE SECOND FORM's CARD OF 'gaolerlaw13.StepUserModeConfinement'. -/
def stepUserModeConfinementUptoCard : Claim7 := { stood := { row := stepUserModeConfinementUptoRow, standIns := [], harness := (true, "8ffe0c46f9e92efb28c84b61b42d6714ec4442e8e8d9bdcf048d53b195bf4d9d"), looks := false }, kinds := [], alts := [], laidByText := true, laidKinds := [.data, .data, .data], laidTests := true, laidLooks := .later }
def StepUserModeConfinementUptoCardSaid : Prop := Claim7.holds Tryz.pinned (.plain (OpenSpec.upto stepUserModeConfinementSpec)) stepUserModeConfinementUptoCard

/-- THE SECOND FORM's CARD OF 'gaolerlaw13.StepTimerHasPriority'. -/
def stepTimerHasPriorityUptoCard : Claim7 := { stood := { row := stepTimerHasPriorityUptoRow, standIns := [], harness := (true, "8ffe0c46f9e92efb28c84b61b42d6714ec4442e8e8d9bdcf048d53b195bf4d9d"), looks := false }, kinds := [], alts := [], laidByText := true, laidKinds := [.data, .data, .data], laidTests := true, laidLooks := .later }
def StepTimerHasPriorityUptoCardSaid : Prop := Claim7.holds Tryz.pinned (.plain (OpenSpec.upto stepTimerHasPrioritySpec)) stepTimerHasPriorityUptoCard

/-- THE SECOND FORM's CARD OF 'gaolerlaw13.StepModeNeverRises'. -/
def stepModeNeverRisesUptoCard : Claim7 := { stood := { row := stepModeNeverRisesUptoRow, standIns := [], harness := (true, "8ffe0c46f9e92efb28c84b61b42d6714ec4442e8e8d9bdcf048d53b195bf4d9d"), looks := false }, kinds := [], alts := [], laidByText := true, laidKinds := [.data, .data, .data], laidTests := true, laidLooks := .later }
def StepModeNeverRisesUptoCardSaid : Prop := Claim7.holds Tryz.pinned (.plain (OpenSpec.upto stepModeNeverRisesSpec)) stepModeNeverRisesUptoCard
end Rows
end Go.Proofs.YtjbnflalngjfaaaGreatDoor
