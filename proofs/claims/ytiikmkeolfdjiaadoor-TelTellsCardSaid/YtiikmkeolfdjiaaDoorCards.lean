/-
  DERIVED. GIVEN WITH THE SEED: THE CARDS: each row of YtiikmkeolfdjiaaDoorRows.lean that lists a variable, with what it lists TIED to the program's text (the seventh form; the later family's looks); each row that meets fmt, with fmt's text TOLD by the authors' own Lean function (tested against real Go, not proved from fmt's source: count such statements apart). THE CARD IS WHAT COUNTS. Prove the row's statement (the work); the ties are given (YtiikmkeolfdjiaaDoorTie.lean); close each card by the builder's one call (the guide's Derived/Test/ToyasCard.lean, 'card_holds'). Laid BY PROGRAM, IN A SANDBOX (cutbox-door.mjs). By AI agents, Wed Nov 11 2026. No macro, syntax, notation, axiom, sorry.
-/
import Derived.Test.YtiikmkeolfdjiaaDoorRows
import GoSem.ClaimSeven
namespace Go.Proofs.YtiikmkeolfdjiaaDoor
namespace Rows

/-- THE TIED CARD OF 'henlaw3.TelTells'. -/
def telTellsCard : Claim7 := { stood := { row := telTellsRow, standIns := [], harness := (true, "e5d4efc6ca62f7a5da66951e6f007e31a1482723cb80c26755b65a3810404989"), looks := false }, kinds := [], alts := [], laidByText := true, laidKinds := [.data, .pinned], laidTests := true, laidLooks := .later }
def TelTellsCardSaid : Prop := Claim7.holds Tryd.pinned (.plain (OpenSpec.ofChange telTellsSpec)) telTellsCard

/-- THE TIED CARD OF 'henlaw3.TelBack'. -/
def telBackCard : Claim7 := { stood := { row := telBackRow, standIns := [], harness := (true, "e5d4efc6ca62f7a5da66951e6f007e31a1482723cb80c26755b65a3810404989"), looks := false }, kinds := [], alts := [], laidByText := true, laidKinds := [.data, .pinned], laidTests := true, laidLooks := .later }
def TelBackCardSaid : Prop := Claim7.holds Tryd.pinned (.plain (OpenSpec.ofChange telBackSpec)) telBackCard

/-- THE TIED CARD OF 'henlaw3.TelMatch'. -/
def telMatchCard : Claim7 := { stood := { row := telMatchRow, standIns := [], harness := (true, "e5d4efc6ca62f7a5da66951e6f007e31a1482723cb80c26755b65a3810404989"), looks := false }, kinds := [], alts := [], laidByText := true, laidKinds := [.data, .pinned], laidTests := true, laidLooks := .later }
def TelMatchCardSaid : Prop := Claim7.holds Tryd.pinned (.plain (OpenSpec.ofChange telMatchSpec)) telMatchCard

/-- THE SECOND FORM's CARD OF 'henlaw3.TelTells'. -/
def telTellsUptoCard : Claim7 := { stood := { row := telTellsUptoRow, standIns := [], harness := (true, "e5d4efc6ca62f7a5da66951e6f007e31a1482723cb80c26755b65a3810404989"), looks := false }, kinds := [], alts := [], laidByText := true, laidKinds := [.data, .pinned], laidTests := true, laidLooks := .later }
def TelTellsUptoCardSaid : Prop := Claim7.holds Tryd.pinned (.plain (OpenSpec.upto telTellsSpec)) telTellsUptoCard

/-- THE SECOND FORM's CARD OF 'henlaw3.TelBack'. -/
def telBackUptoCard : Claim7 := { stood := { row := telBackUptoRow, standIns := [], harness := (true, "e5d4efc6ca62f7a5da66951e6f007e31a1482723cb80c26755b65a3810404989"), looks := false }, kinds := [], alts := [], laidByText := true, laidKinds := [.data, .pinned], laidTests := true, laidLooks := .later }
def TelBackUptoCardSaid : Prop := Claim7.holds Tryd.pinned (.plain (OpenSpec.upto telBackSpec)) telBackUptoCard

/-- THE SECOND FORM's CARD OF 'henlaw3.TelMatch'. -/
def telMatchUptoCard : Claim7 := { stood := { row := telMatchUptoRow, standIns := [], harness := (true, "e5d4efc6ca62f7a5da66951e6f007e31a1482723cb80c26755b65a3810404989"), looks := false }, kinds := [], alts := [], laidByText := true, laidKinds := [.data, .pinned], laidTests := true, laidLooks := .later }
def TelMatchUptoCardSaid : Prop := Claim7.holds Tryd.pinned (.plain (OpenSpec.upto telMatchSpec)) telMatchUptoCard
end Rows
end Go.Proofs.YtiikmkeolfdjiaaDoor
