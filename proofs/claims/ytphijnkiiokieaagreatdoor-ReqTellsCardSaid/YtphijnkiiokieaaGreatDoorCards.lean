/-
  DERIVED. GIVEN WITH THE SEED: THE CARDS: each row of YtphijnkiiokieaaGreatDoorRows.lean that lists a variable, with what it lists TIED to the program's text (the seventh form; the later family's looks); each row that meets fmt, with fmt's text TOLD by the authors' own Lean function (tested against real Go, not proved from fmt's source: count such statements apart). THE CARD IS WHAT COUNTS. Prove the row's statement (the work); the ties are given (YtphijnkiiokieaaGreatDoorTie.lean); close each card by the builder's one call (the guide's Derived/Test/ToyasCard.lean, 'card_holds'). Laid BY PROGRAM, IN A SANDBOX (cutbox-door.mjs). By AI agents, Wed Nov 11 2026. No macro, syntax, notation, axiom, sorry.
-/
import Derived.Test.YtphijnkiiokieaaGreatDoorRows
import GoSem.ClaimSeven
namespace Go.Proofs.YtphijnkiiokieaaGreatDoor
namespace Rows

/-- THE TIED CARD OF 'henlaw12.ReqTells'. -/
def reqTellsCard : Claim7 := { stood := { row := reqTellsRow, standIns := [], harness := (true, "6974a4184e759838dff02766558267bc0ea9c384203956da1a78570d3526e83a"), looks := false }, kinds := [], alts := [], laidByText := true, laidKinds := [.data, .data, .data, .data, .pinned], laidTests := true, laidLooks := .later }
def ReqTellsCardSaid : Prop := Claim7.holds Tryz.pinned (.plain (OpenSpec.ofChange reqTellsSpec)) reqTellsCard

/-- THE TIED CARD OF 'henlaw12.ReqBack'. -/
def reqBackCard : Claim7 := { stood := { row := reqBackRow, standIns := [], harness := (true, "6974a4184e759838dff02766558267bc0ea9c384203956da1a78570d3526e83a"), looks := false }, kinds := [], alts := [], laidByText := true, laidKinds := [.data, .data, .data, .data, .pinned], laidTests := true, laidLooks := .later }
def ReqBackCardSaid : Prop := Claim7.holds Tryz.pinned (.plain (OpenSpec.ofChange reqBackSpec)) reqBackCard

/-- THE TIED CARD OF 'henlaw12.ReqCut'. -/
def reqCutCard : Claim7 := { stood := { row := reqCutRow, standIns := [], harness := (true, "6974a4184e759838dff02766558267bc0ea9c384203956da1a78570d3526e83a"), looks := false }, kinds := [], alts := [], laidByText := true, laidKinds := [.data, .data, .data, .data, .pinned], laidTests := true, laidLooks := .later }
def ReqCutCardSaid : Prop := Claim7.holds Tryz.pinned (.plain (OpenSpec.ofChange reqCutSpec)) reqCutCard

/-- THE TIED CARD OF 'henlaw12.ReqFields'. -/
def reqFieldsCard : Claim7 := { stood := { row := reqFieldsRow, standIns := [], harness := (true, "6974a4184e759838dff02766558267bc0ea9c384203956da1a78570d3526e83a"), looks := false }, kinds := [], alts := [], laidByText := true, laidKinds := [.data, .data, .data, .data, .pinned], laidTests := true, laidLooks := .later }
def ReqFieldsCardSaid : Prop := Claim7.holds Tryz.pinned (.plain (OpenSpec.ofChange reqFieldsSpec)) reqFieldsCard

/-- THE TIED CARD OF 'henlaw12.ReqNames'. -/
def reqNamesCard : Claim7 := { stood := { row := reqNamesRow, standIns := [], harness := (true, "6974a4184e759838dff02766558267bc0ea9c384203956da1a78570d3526e83a"), looks := false }, kinds := [], alts := [], laidByText := true, laidKinds := [.data, .data, .data, .data, .pinned], laidTests := true, laidLooks := .later }
def ReqNamesCardSaid : Prop := Claim7.holds Tryz.pinned (.plain (OpenSpec.ofChange reqNamesSpec)) reqNamesCard

/-- THE SECOND FORM's CARD OF 'henlaw12.ReqTells'. -/
def reqTellsUptoCard : Claim7 := { stood := { row := reqTellsUptoRow, standIns := [], harness := (true, "6974a4184e759838dff02766558267bc0ea9c384203956da1a78570d3526e83a"), looks := false }, kinds := [], alts := [], laidByText := true, laidKinds := [.data, .data, .data, .data, .pinned], laidTests := true, laidLooks := .later }
def ReqTellsUptoCardSaid : Prop := Claim7.holds Tryz.pinned (.plain (OpenSpec.upto reqTellsSpec)) reqTellsUptoCard

/-- THE SECOND FORM's CARD OF 'henlaw12.ReqBack'. -/
def reqBackUptoCard : Claim7 := { stood := { row := reqBackUptoRow, standIns := [], harness := (true, "6974a4184e759838dff02766558267bc0ea9c384203956da1a78570d3526e83a"), looks := false }, kinds := [], alts := [], laidByText := true, laidKinds := [.data, .data, .data, .data, .pinned], laidTests := true, laidLooks := .later }
def ReqBackUptoCardSaid : Prop := Claim7.holds Tryz.pinned (.plain (OpenSpec.upto reqBackSpec)) reqBackUptoCard

/-- THE SECOND FORM's CARD OF 'henlaw12.ReqCut'. -/
def reqCutUptoCard : Claim7 := { stood := { row := reqCutUptoRow, standIns := [], harness := (true, "6974a4184e759838dff02766558267bc0ea9c384203956da1a78570d3526e83a"), looks := false }, kinds := [], alts := [], laidByText := true, laidKinds := [.data, .data, .data, .data, .pinned], laidTests := true, laidLooks := .later }
def ReqCutUptoCardSaid : Prop := Claim7.holds Tryz.pinned (.plain (OpenSpec.upto reqCutSpec)) reqCutUptoCard

/-- THE SECOND FORM's CARD OF 'henlaw12.ReqFields'. -/
def reqFieldsUptoCard : Claim7 := { stood := { row := reqFieldsUptoRow, standIns := [], harness := (true, "6974a4184e759838dff02766558267bc0ea9c384203956da1a78570d3526e83a"), looks := false }, kinds := [], alts := [], laidByText := true, laidKinds := [.data, .data, .data, .data, .pinned], laidTests := true, laidLooks := .later }
def ReqFieldsUptoCardSaid : Prop := Claim7.holds Tryz.pinned (.plain (OpenSpec.upto reqFieldsSpec)) reqFieldsUptoCard

/-- THE SECOND FORM's CARD OF 'henlaw12.ReqNames'. -/
def reqNamesUptoCard : Claim7 := { stood := { row := reqNamesUptoRow, standIns := [], harness := (true, "6974a4184e759838dff02766558267bc0ea9c384203956da1a78570d3526e83a"), looks := false }, kinds := [], alts := [], laidByText := true, laidKinds := [.data, .data, .data, .data, .pinned], laidTests := true, laidLooks := .later }
def ReqNamesUptoCardSaid : Prop := Claim7.holds Tryz.pinned (.plain (OpenSpec.upto reqNamesSpec)) reqNamesUptoCard
end Rows
end Go.Proofs.YtphijnkiiokieaaGreatDoor
