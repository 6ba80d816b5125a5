/- The chapter's examples. -/
import Derived.Test.YtdjibpjdgfhcoaaCnd
namespace Go.Proofs.Ytdjibpjdgfhcoaa
open Go.RowKit
set_option linter.unusedVariables false
theorem first_any (w : World) : Calls Try.prog 7 #[] w fun e w' => e = .returned (.bool true) ∧ Below w.heap.size w w' := by
  go_enter Try.func7, Try.ntmps7
  go_wp2_with fail
  refine (parse_any { data := #[34, 49, 48, 52, 34] } _ (by decide)).mono ?_; rintro e w' ⟨rfl, rfl⟩
  rw [show (prs { data := #[34, 49, 48, 52, 34] }) = (32, true) by decide +kernel]
  go_wp2_with fail
  refine (show_any 1 _ (by omega) (by omega)).mono ?_; rintro e w' ⟨rfl, rfl⟩
  rw [show shw 1 = ⟨#[34, 49, 112, 34]⟩ by decide +kernel]
  go_wp2_with fail
  refine (holds_any 0 0 true 3 _).mono ?_; rintro e w' ⟨rfl, hb⟩
  rw [show holdsB 0 0 true 3 = true by decide +kernel]
  go_wp2
  go_ret
  exact ⟨rfl, hb⟩
end Go.Proofs.Ytdjibpjdgfhcoaa
