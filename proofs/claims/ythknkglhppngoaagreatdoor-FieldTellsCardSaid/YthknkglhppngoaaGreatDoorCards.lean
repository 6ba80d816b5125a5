/-
  DERIVED. GIVEN WITH THE SEED: THE CARDS: each row of YthknkglhppngoaaGreatDoorRows.lean that lists a variable, with what it lists TIED to the program's text (the seventh form; the later family's looks); each row that meets fmt, with fmt's text TOLD by the authors' own Lean function (tested against real Go, not proved from fmt's source: count such statements apart). THE CARD IS WHAT COUNTS. Prove the row's statement (the work); the ties are given (YthknkglhppngoaaGreatDoorTie.lean); close each card by the builder's one call (the guide's Derived/Test/ToyasCard.lean, 'card_holds'). Laid BY PROGRAM, IN A SANDBOX (cutbox-door.mjs). By AI agents, Wed Nov 11 2026. No macro, syntax, notation, axiom, sorry.
-/
import Derived.Test.YthknkglhppngoaaGreatDoorRows
import GoSem.ClaimSeven
namespace Go.Proofs.YthknkglhppngoaaGreatDoor
namespace Rows

/-- THE TIED CARD OF 'henlaw6.FieldTells'. -/
def fieldTellsCard : Claim7 := { stood := { row := fieldTellsRow, standIns := [], harness := (true, "a8bc46ad5bb7799378ca08c1a8e07fd49b1f9af7b5717c3793eaec4c5614f27f"), looks := false }, kinds := [], alts := [], laidByText := true, laidKinds := [.data, .data, .data, .data, .pinned], laidTests := true, laidLooks := .later }
def FieldTellsCardSaid : Prop := Claim7.holds Tryz.pinned (.plain (OpenSpec.ofChange fieldTellsSpec)) fieldTellsCard

/-- THE SECOND FORM's CARD OF 'henlaw6.FieldTells'. -/
def fieldTellsUptoCard : Claim7 := { stood := { row := fieldTellsUptoRow, standIns := [], harness := (true, "a8bc46ad5bb7799378ca08c1a8e07fd49b1f9af7b5717c3793eaec4c5614f27f"), looks := false }, kinds := [], alts := [], laidByText := true, laidKinds := [.data, .data, .data, .data, .pinned], laidTests := true, laidLooks := .later }
def FieldTellsUptoCardSaid : Prop := Claim7.holds Tryz.pinned (.plain (OpenSpec.upto fieldTellsSpec)) fieldTellsUptoCard
end Rows
end Go.Proofs.YthknkglhppngoaaGreatDoor
