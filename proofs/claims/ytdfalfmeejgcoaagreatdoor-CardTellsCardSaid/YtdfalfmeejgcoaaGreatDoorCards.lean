/-
  DERIVED. GIVEN WITH THE SEED: THE CARDS: each row of YtdfalfmeejgcoaaGreatDoorRows.lean that lists a variable, with what it lists TIED to the program's text (the seventh form; the later family's looks); each row that meets fmt, with fmt's text TOLD by the authors' own Lean function (tested against real Go, not proved from fmt's source: count such statements apart). THE CARD IS WHAT COUNTS. Prove the row's statement (the work); the ties are given (YtdfalfmeejgcoaaGreatDoorTie.lean); close each card by the builder's one call (the guide's Derived/Test/ToyasCard.lean, 'card_holds'). Laid BY PROGRAM, IN A SANDBOX (cutbox-door.mjs). By AI agents, Wed Nov 11 2026. No macro, syntax, notation, axiom, sorry.
-/
import Derived.Test.YtdfalfmeejgcoaaGreatDoorRows
import GoSem.ClaimSeven
namespace Go.Proofs.YtdfalfmeejgcoaaGreatDoor
namespace Rows

/-- THE TIED CARD OF 'henlaw7.CardTells'. -/
def cardTellsCard : Claim7 := { stood := { row := cardTellsRow, standIns := [], harness := (true, "be0f4f7c94a36af71ede2420b2ffd473ab80949c9fa02ea62f57158a7def1453"), looks := false }, kinds := [], alts := [], laidByText := true, laidKinds := [.data, .data, .data, .data, .pinned], laidTests := true, laidLooks := .later }
def CardTellsCardSaid : Prop := Claim7.holds Tryz.pinned (.plain (OpenSpec.ofChange cardTellsSpec)) cardTellsCard

/-- THE TIED CARD OF 'henlaw7.CardBack'. -/
def cardBackCard : Claim7 := { stood := { row := cardBackRow, standIns := [], harness := (true, "be0f4f7c94a36af71ede2420b2ffd473ab80949c9fa02ea62f57158a7def1453"), looks := false }, kinds := [], alts := [], laidByText := true, laidKinds := [.data, .data, .data, .data, .pinned], laidTests := true, laidLooks := .later }
def CardBackCardSaid : Prop := Claim7.holds Tryz.pinned (.plain (OpenSpec.ofChange cardBackSpec)) cardBackCard

/-- THE TIED CARD OF 'henlaw7.CardOrder'. -/
def cardOrderCard : Claim7 := { stood := { row := cardOrderRow, standIns := [], harness := (true, "be0f4f7c94a36af71ede2420b2ffd473ab80949c9fa02ea62f57158a7def1453"), looks := false }, kinds := [], alts := [], laidByText := true, laidKinds := [.data, .data, .data, .data, .pinned], laidTests := true, laidLooks := .later }
def CardOrderCardSaid : Prop := Claim7.holds Tryz.pinned (.plain (OpenSpec.ofChange cardOrderSpec)) cardOrderCard

/-- THE TIED CARD OF 'henlaw7.CardNames'. -/
def cardNamesCard : Claim7 := { stood := { row := cardNamesRow, standIns := [], harness := (true, "be0f4f7c94a36af71ede2420b2ffd473ab80949c9fa02ea62f57158a7def1453"), looks := false }, kinds := [], alts := [], laidByText := true, laidKinds := [.data, .data, .data, .data, .pinned], laidTests := true, laidLooks := .later }
def CardNamesCardSaid : Prop := Claim7.holds Tryz.pinned (.plain (OpenSpec.ofChange cardNamesSpec)) cardNamesCard

/-- THE SECOND FORM's CARD OF 'henlaw7.CardTells'. -/
def cardTellsUptoCard : Claim7 := { stood := { row := cardTellsUptoRow, standIns := [], harness := (true, "be0f4f7c94a36af71ede2420b2ffd473ab80949c9fa02ea62f57158a7def1453"), looks := false }, kinds := [], alts := [], laidByText := true, laidKinds := [.data, .data, .data, .data, .pinned], laidTests := true, laidLooks := .later }
def CardTellsUptoCardSaid : Prop := Claim7.holds Tryz.pinned (.plain (OpenSpec.upto cardTellsSpec)) cardTellsUptoCard

/-- THE SECOND FORM's CARD OF 'henlaw7.CardBack'. -/
def cardBackUptoCard : Claim7 := { stood := { row := cardBackUptoRow, standIns := [], harness := (true, "be0f4f7c94a36af71ede2420b2ffd473ab80949c9fa02ea62f57158a7def1453"), looks := false }, kinds := [], alts := [], laidByText := true, laidKinds := [.data, .data, .data, .data, .pinned], laidTests := true, laidLooks := .later }
def CardBackUptoCardSaid : Prop := Claim7.holds Tryz.pinned (.plain (OpenSpec.upto cardBackSpec)) cardBackUptoCard

/-- THE SECOND FORM's CARD OF 'henlaw7.CardOrder'. -/
def cardOrderUptoCard : Claim7 := { stood := { row := cardOrderUptoRow, standIns := [], harness := (true, "be0f4f7c94a36af71ede2420b2ffd473ab80949c9fa02ea62f57158a7def1453"), looks := false }, kinds := [], alts := [], laidByText := true, laidKinds := [.data, .data, .data, .data, .pinned], laidTests := true, laidLooks := .later }
def CardOrderUptoCardSaid : Prop := Claim7.holds Tryz.pinned (.plain (OpenSpec.upto cardOrderSpec)) cardOrderUptoCard

/-- THE SECOND FORM's CARD OF 'henlaw7.CardNames'. -/
def cardNamesUptoCard : Claim7 := { stood := { row := cardNamesUptoRow, standIns := [], harness := (true, "be0f4f7c94a36af71ede2420b2ffd473ab80949c9fa02ea62f57158a7def1453"), looks := false }, kinds := [], alts := [], laidByText := true, laidKinds := [.data, .data, .data, .data, .pinned], laidTests := true, laidLooks := .later }
def CardNamesUptoCardSaid : Prop := Claim7.holds Tryz.pinned (.plain (OpenSpec.upto cardNamesSpec)) cardNamesUptoCard
end Rows
end Go.Proofs.YtdfalfmeejgcoaaGreatDoor
