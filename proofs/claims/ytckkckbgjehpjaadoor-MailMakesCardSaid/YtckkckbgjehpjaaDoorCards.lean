/-
  DERIVED. GIVEN WITH THE SEED: THE CARDS: each row of YtckkckbgjehpjaaDoorRows.lean that lists a variable, with what it lists TIED to the program's text (the seventh form; the later family's looks); each row that meets fmt, with fmt's text TOLD by the authors' own Lean function (tested against real Go, not proved from fmt's source: count such statements apart). THE CARD IS WHAT COUNTS. Prove the row's statement (the work); the ties are given (YtckkckbgjehpjaaDoorTie.lean); close each card by the builder's one call (the guide's Derived/Test/ToyasCard.lean, 'card_holds'). Laid BY PROGRAM, IN A SANDBOX (cutbox-door.mjs). By AI agents, Wed Nov 11 2026. No macro, syntax, notation, axiom, sorry.
-/
import Derived.Test.YtckkckbgjehpjaaDoorRows
import GoSem.ClaimSeven
namespace Go.Proofs.YtckkckbgjehpjaaDoor
namespace Rows

/-- THE TIED CARD OF 'henlaw4.MailTells'. -/
def mailTellsCard : Claim7 := { stood := { row := mailTellsRow, standIns := [], harness := (true, "f396309cce0c3b866d8c0a6bea9b1fcbb5b2a3f20569b75849a37274af1e77ec"), looks := false }, kinds := [], alts := [], laidByText := true, laidKinds := [.data, .pinned], laidTests := true, laidLooks := .later }
def MailTellsCardSaid : Prop := Claim7.holds Tryd.pinned (.plain (OpenSpec.ofChange mailTellsSpec)) mailTellsCard

/-- THE TIED CARD OF 'henlaw4.MailBack'. -/
def mailBackCard : Claim7 := { stood := { row := mailBackRow, standIns := [], harness := (true, "f396309cce0c3b866d8c0a6bea9b1fcbb5b2a3f20569b75849a37274af1e77ec"), looks := false }, kinds := [], alts := [], laidByText := true, laidKinds := [.data, .pinned], laidTests := true, laidLooks := .later }
def MailBackCardSaid : Prop := Claim7.holds Tryd.pinned (.plain (OpenSpec.ofChange mailBackSpec)) mailBackCard

/-- THE TIED CARD OF 'henlaw4.MailMakes'. -/
def mailMakesCard : Claim7 := { stood := { row := mailMakesRow, standIns := [], harness := (true, "f396309cce0c3b866d8c0a6bea9b1fcbb5b2a3f20569b75849a37274af1e77ec"), looks := false }, kinds := [], alts := [], laidByText := true, laidKinds := [.data, .pinned], laidTests := true, laidLooks := .later }
def MailMakesCardSaid : Prop := Claim7.holds Tryd.pinned (.plain (OpenSpec.ofChange mailMakesSpec)) mailMakesCard

/-- THE SECOND FORM's CARD OF 'henlaw4.MailTells'. -/
def mailTellsUptoCard : Claim7 := { stood := { row := mailTellsUptoRow, standIns := [], harness := (true, "f396309cce0c3b866d8c0a6bea9b1fcbb5b2a3f20569b75849a37274af1e77ec"), looks := false }, kinds := [], alts := [], laidByText := true, laidKinds := [.data, .pinned], laidTests := true, laidLooks := .later }
def MailTellsUptoCardSaid : Prop := Claim7.holds Tryd.pinned (.plain (OpenSpec.upto mailTellsSpec)) mailTellsUptoCard

/-- THE SECOND FORM's CARD OF 'henlaw4.MailBack'. -/
def mailBackUptoCard : Claim7 := { stood := { row := mailBackUptoRow, standIns := [], harness := (true, "f396309cce0c3b866d8c0a6bea9b1fcbb5b2a3f20569b75849a37274af1e77ec"), looks := false }, kinds := [], alts := [], laidByText := true, laidKinds := [.data, .pinned], laidTests := true, laidLooks := .later }
def MailBackUptoCardSaid : Prop := Claim7.holds Tryd.pinned (.plain (OpenSpec.upto mailBackSpec)) mailBackUptoCard

/-- THE SECOND FORM's CARD OF 'henlaw4.MailMakes'. -/
def mailMakesUptoCard : Claim7 := { stood := { row := mailMakesUptoRow, standIns := [], harness := (true, "f396309cce0c3b866d8c0a6bea9b1fcbb5b2a3f20569b75849a37274af1e77ec"), looks := false }, kinds := [], alts := [], laidByText := true, laidKinds := [.data, .pinned], laidTests := true, laidLooks := .later }
def MailMakesUptoCardSaid : Prop := Claim7.holds Tryd.pinned (.plain (OpenSpec.upto mailMakesSpec)) mailMakesUptoCard
end Rows
end Go.Proofs.YtckkckbgjehpjaaDoor
