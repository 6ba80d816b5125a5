/-
  DERIVED. GIVEN WITH THE SEED: THE CARDS: each row of YtelkbodhipfjaaaDoorRows.lean that lists a variable, with what it lists TIED to the program's text (the seventh form; the later family's looks); each row that meets fmt, with fmt's text TOLD by the authors' own Lean function (tested against real Go, not proved from fmt's source: count such statements apart). THE CARD IS WHAT COUNTS. Prove the row's statement (the work); the ties are given (YtelkbodhipfjaaaDoorTie.lean); close each card by the builder's one call (the guide's Derived/Test/ToyasCard.lean, 'card_holds'). Laid BY PROGRAM, IN A SANDBOX (cutbox-door.mjs). By AI agents, Wed Nov 11 2026. No macro, syntax, notation, axiom, sorry.
-/
import Derived.Test.YtelkbodhipfjaaaDoorRows
import GoSem.ClaimSeven
namespace Go.Proofs.YtelkbodhipfjaaaDoor
namespace Rows

/-- THE TIED CARD OF 'henlaw5.DayTells'. -/
def dayTellsCard : Claim7 := { stood := { row := dayTellsRow, standIns := [], harness := (true, "9592bc8c8d6f0ff93c24f883735f30867b27f4e5278728a2a9b666a9f57e1473"), looks := false }, kinds := [], alts := [], laidByText := true, laidKinds := [.data, .data, .data], laidTests := true, laidLooks := .later }
def DayTellsCardSaid : Prop := Claim7.holds Tryd.pinned (.plain (OpenSpec.ofChange dayTellsSpec)) dayTellsCard

/-- THE TIED CARD OF 'henlaw5.DayBack'. -/
def dayBackCard : Claim7 := { stood := { row := dayBackRow, standIns := [], harness := (true, "9592bc8c8d6f0ff93c24f883735f30867b27f4e5278728a2a9b666a9f57e1473"), looks := false }, kinds := [], alts := [], laidByText := true, laidKinds := [.data, .data, .data], laidTests := true, laidLooks := .later }
def DayBackCardSaid : Prop := Claim7.holds Tryd.pinned (.plain (OpenSpec.ofChange dayBackSpec)) dayBackCard

/-- THE TIED CARD OF 'henlaw5.DayNext'. -/
def dayNextCard : Claim7 := { stood := { row := dayNextRow, standIns := [], harness := (true, "9592bc8c8d6f0ff93c24f883735f30867b27f4e5278728a2a9b666a9f57e1473"), looks := false }, kinds := [], alts := [], laidByText := true, laidKinds := [.data, .data, .data], laidTests := true, laidLooks := .later }
def DayNextCardSaid : Prop := Claim7.holds Tryd.pinned (.plain (OpenSpec.ofChange dayNextSpec)) dayNextCard

/-- THE TIED CARD OF 'henlaw5.DayUntil'. -/
def dayUntilCard : Claim7 := { stood := { row := dayUntilRow, standIns := [], harness := (true, "9592bc8c8d6f0ff93c24f883735f30867b27f4e5278728a2a9b666a9f57e1473"), looks := false }, kinds := [], alts := [], laidByText := true, laidKinds := [.data, .data, .data], laidTests := true, laidLooks := .later }
def DayUntilCardSaid : Prop := Claim7.holds Tryd.pinned (.plain (OpenSpec.ofChange dayUntilSpec)) dayUntilCard

/-- THE SECOND FORM's CARD OF 'henlaw5.DayTells'. -/
def dayTellsUptoCard : Claim7 := { stood := { row := dayTellsUptoRow, standIns := [], harness := (true, "9592bc8c8d6f0ff93c24f883735f30867b27f4e5278728a2a9b666a9f57e1473"), looks := false }, kinds := [], alts := [], laidByText := true, laidKinds := [.data, .data, .data], laidTests := true, laidLooks := .later }
def DayTellsUptoCardSaid : Prop := Claim7.holds Tryd.pinned (.plain (OpenSpec.upto dayTellsSpec)) dayTellsUptoCard

/-- THE SECOND FORM's CARD OF 'henlaw5.DayBack'. -/
def dayBackUptoCard : Claim7 := { stood := { row := dayBackUptoRow, standIns := [], harness := (true, "9592bc8c8d6f0ff93c24f883735f30867b27f4e5278728a2a9b666a9f57e1473"), looks := false }, kinds := [], alts := [], laidByText := true, laidKinds := [.data, .data, .data], laidTests := true, laidLooks := .later }
def DayBackUptoCardSaid : Prop := Claim7.holds Tryd.pinned (.plain (OpenSpec.upto dayBackSpec)) dayBackUptoCard

/-- THE SECOND FORM's CARD OF 'henlaw5.DayNext'. -/
def dayNextUptoCard : Claim7 := { stood := { row := dayNextUptoRow, standIns := [], harness := (true, "9592bc8c8d6f0ff93c24f883735f30867b27f4e5278728a2a9b666a9f57e1473"), looks := false }, kinds := [], alts := [], laidByText := true, laidKinds := [.data, .data, .data], laidTests := true, laidLooks := .later }
def DayNextUptoCardSaid : Prop := Claim7.holds Tryd.pinned (.plain (OpenSpec.upto dayNextSpec)) dayNextUptoCard

/-- THE SECOND FORM's CARD OF 'henlaw5.DayUntil'. -/
def dayUntilUptoCard : Claim7 := { stood := { row := dayUntilUptoRow, standIns := [], harness := (true, "9592bc8c8d6f0ff93c24f883735f30867b27f4e5278728a2a9b666a9f57e1473"), looks := false }, kinds := [], alts := [], laidByText := true, laidKinds := [.data, .data, .data], laidTests := true, laidLooks := .later }
def DayUntilUptoCardSaid : Prop := Claim7.holds Tryd.pinned (.plain (OpenSpec.upto dayUntilSpec)) dayUntilUptoCard
end Rows
end Go.Proofs.YtelkbodhipfjaaaDoor
