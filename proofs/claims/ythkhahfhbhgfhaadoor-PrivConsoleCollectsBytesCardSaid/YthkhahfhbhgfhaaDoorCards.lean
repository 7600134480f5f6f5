/-
  DERIVED. GIVEN WITH THE SEED: THE CARDS: each row of YthkhahfhbhgfhaaDoorRows.lean that lists a variable, with what it lists TIED to the program's text (the seventh form; the later family's looks); each row that meets fmt, with fmt's text TOLD by the authors' own Lean function (tested against real Go, not proved from fmt's source: count such statements apart). THE CARD IS WHAT COUNTS. Prove the row's statement (the work); the ties are given (YthkhahfhbhgfhaaDoorTie.lean); close each card by the builder's one call (the guide's Derived/Test/ToyasCard.lean, 'card_holds'). Laid BY PROGRAM, IN A SANDBOX (cutbox-door.mjs). By AI agents, Wed Nov 11 2026. No macro, syntax, notation, axiom, sorry.
-/
import Derived.Test.YthkhahfhbhgfhaaDoorRows
import GoSem.ClaimSeven
namespace Go.Proofs.YthkhahfhbhgfhaaDoor
namespace Rows

/-- THE TIED CARD OF 'gaolerlaw11.ExecuteFrame'. -/
def executeFrameCard : Claim7 := { stood := { row := executeFrameRow, standIns := [], harness := (true, "d78811fdd0f342fbb2ba603c83f6eebd8ca321176a55a836c8fad2cf606a22cc"), looks := false }, kinds := [], alts := [], laidByText := true, laidKinds := [.data, .data], laidTests := true, laidLooks := .later }
def ExecuteFrameCardSaid : Prop := Claim7.holds Tryd.pinned (.plain (OpenSpec.ofChange executeFrameSpec)) executeFrameCard

/-- THE TIED CARD OF 'gaolerlaw12.PrivilegedMatchesReference'. -/
def privilegedMatchesReferenceCard : Claim7 := { stood := { row := privilegedMatchesReferenceRow, standIns := [], harness := (true, "d78811fdd0f342fbb2ba603c83f6eebd8ca321176a55a836c8fad2cf606a22cc"), looks := false }, kinds := [], alts := [], laidByText := true, laidKinds := [.data], laidTests := true, laidLooks := .later }
def PrivilegedMatchesReferenceCardSaid : Prop := Claim7.holds Tryd.pinned (.plain (OpenSpec.ofChange privilegedMatchesReferenceSpec)) privilegedMatchesReferenceCard

/-- THE TIED CARD OF 'gaolerlaw12.PrivilegedFrame'. -/
def privilegedFrameCard : Claim7 := { stood := { row := privilegedFrameRow, standIns := [], harness := (true, "d78811fdd0f342fbb2ba603c83f6eebd8ca321176a55a836c8fad2cf606a22cc"), looks := false }, kinds := [], alts := [], laidByText := true, laidKinds := [.data], laidTests := true, laidLooks := .later }
def PrivilegedFrameCardSaid : Prop := Claim7.holds Tryd.pinned (.plain (OpenSpec.ofChange privilegedFrameSpec)) privilegedFrameCard

/-- THE TIED CARD OF 'gaolerlaw12.PrivReadWriteCsr'. -/
def privReadWriteCsrCard : Claim7 := { stood := { row := privReadWriteCsrRow, standIns := [], harness := (true, "d78811fdd0f342fbb2ba603c83f6eebd8ca321176a55a836c8fad2cf606a22cc"), looks := false }, kinds := [], alts := [], laidByText := true, laidKinds := [.data], laidTests := true, laidLooks := .later }
def PrivReadWriteCsrCardSaid : Prop := Claim7.holds Tryd.pinned (.plain (OpenSpec.ofChange privReadWriteCsrSpec)) privReadWriteCsrCard

/-- THE TIED CARD OF 'gaolerlaw12.PrivEretReturns'. -/
def privEretReturnsCard : Claim7 := { stood := { row := privEretReturnsRow, standIns := [], harness := (true, "d78811fdd0f342fbb2ba603c83f6eebd8ca321176a55a836c8fad2cf606a22cc"), looks := false }, kinds := [], alts := [], laidByText := true, laidKinds := [.data], laidTests := true, laidLooks := .later }
def PrivEretReturnsCardSaid : Prop := Claim7.holds Tryd.pinned (.plain (OpenSpec.ofChange privEretReturnsSpec)) privEretReturnsCard

/-- THE TIED CARD OF 'gaolerlaw12.PrivConsoleCollectsBytes'. -/
def privConsoleCollectsBytesCard : Claim7 := { stood := { row := privConsoleCollectsBytesRow, standIns := [], harness := (true, "d78811fdd0f342fbb2ba603c83f6eebd8ca321176a55a836c8fad2cf606a22cc"), looks := false }, kinds := [], alts := [], laidByText := true, laidKinds := [.data], laidTests := true, laidLooks := .later }
def PrivConsoleCollectsBytesCardSaid : Prop := Claim7.holds Tryd.pinned (.plain (OpenSpec.ofChange privConsoleCollectsBytesSpec)) privConsoleCollectsBytesCard

/-- THE SECOND FORM's CARD OF 'gaolerlaw11.ExecuteFrame'. -/
def executeFrameUptoCard : Claim7 := { stood := { row := executeFrameUptoRow, standIns := [], harness := (true, "d78811fdd0f342fbb2ba603c83f6eebd8ca321176a55a836c8fad2cf606a22cc"), looks := false }, kinds := [], alts := [], laidByText := true, laidKinds := [.data, .data], laidTests := true, laidLooks := .later }
def ExecuteFrameUptoCardSaid : Prop := Claim7.holds Tryd.pinned (.plain (OpenSpec.upto executeFrameSpec)) executeFrameUptoCard

/-- THE SECOND FORM's CARD OF 'gaolerlaw12.PrivilegedMatchesReference'. -/
def privilegedMatchesReferenceUptoCard : Claim7 := { stood := { row := privilegedMatchesReferenceUptoRow, standIns := [], harness := (true, "d78811fdd0f342fbb2ba603c83f6eebd8ca321176a55a836c8fad2cf606a22cc"), looks := false }, kinds := [], alts := [], laidByText := true, laidKinds := [.data], laidTests := true, laidLooks := .later }
def PrivilegedMatchesReferenceUptoCardSaid : Prop := Claim7.holds Tryd.pinned (.plain (OpenSpec.upto privilegedMatchesReferenceSpec)) privilegedMatchesReferenceUptoCard

/-- THE SECOND FORM's CARD OF 'gaolerlaw12.PrivilegedFrame'. -/
def privilegedFrameUptoCard : Claim7 := { stood := { row := privilegedFrameUptoRow, standIns := [], harness := (true, "d78811fdd0f342fbb2ba603c83f6eebd8ca321176a55a836c8fad2cf606a22cc"), looks := false }, kinds := [], alts := [], laidByText := true, laidKinds := [.data], laidTests := true, laidLooks := .later }
def PrivilegedFrameUptoCardSaid : Prop := Claim7.holds Tryd.pinned (.plain (OpenSpec.upto privilegedFrameSpec)) privilegedFrameUptoCard

/-- THE SECOND FORM's CARD OF 'gaolerlaw12.PrivReadWriteCsr'. -/
def privReadWriteCsrUptoCard : Claim7 := { stood := { row := privReadWriteCsrUptoRow, standIns := [], harness := (true, "d78811fdd0f342fbb2ba603c83f6eebd8ca321176a55a836c8fad2cf606a22cc"), looks := false }, kinds := [], alts := [], laidByText := true, laidKinds := [.data], laidTests := true, laidLooks := .later }
def PrivReadWriteCsrUptoCardSaid : Prop := Claim7.holds Tryd.pinned (.plain (OpenSpec.upto privReadWriteCsrSpec)) privReadWriteCsrUptoCard

/-- THE SECOND FORM's CARD OF 'gaolerlaw12.PrivEretReturns'. -/
def privEretReturnsUptoCard : Claim7 := { stood := { row := privEretReturnsUptoRow, standIns := [], harness := (true, "d78811fdd0f342fbb2ba603c83f6eebd8ca321176a55a836c8fad2cf606a22cc"), looks := false }, kinds := [], alts := [], laidByText := true, laidKinds := [.data], laidTests := true, laidLooks := .later }
def PrivEretReturnsUptoCardSaid : Prop := Claim7.holds Tryd.pinned (.plain (OpenSpec.upto privEretReturnsSpec)) privEretReturnsUptoCard

/-- THE SECOND FORM's CARD OF 'gaolerlaw12.PrivConsoleCollectsBytes'. -/
def privConsoleCollectsBytesUptoCard : Claim7 := { stood := { row := privConsoleCollectsBytesUptoRow, standIns := [], harness := (true, "d78811fdd0f342fbb2ba603c83f6eebd8ca321176a55a836c8fad2cf606a22cc"), looks := false }, kinds := [], alts := [], laidByText := true, laidKinds := [.data], laidTests := true, laidLooks := .later }
def PrivConsoleCollectsBytesUptoCardSaid : Prop := Claim7.holds Tryd.pinned (.plain (OpenSpec.upto privConsoleCollectsBytesSpec)) privConsoleCollectsBytesUptoCard
end Rows
end Go.Proofs.YthkhahfhbhgfhaaDoor
