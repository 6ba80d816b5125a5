/- The chapter's examples. -/
import Derived.Test.YtjabpchkdcdiaaaKey
namespace Go.Proofs.Ytjabpchkdcdiaaa
open Go.RowKit
set_option linter.unusedVariables false
theorem split_ex (w : World) : Calls Try.prog 7 #[.string { data := #[97, 110, 110, 47, 104, 111, 109, 101] }] w fun e w' => e = .returned (.tuple #[.string { data := #[97, 110, 110] }, .string { data := #[104, 111, 109, 101] }, .bool true]) ∧ ∃ n, w' = w.drewN n :=
  (split_any _ w (by decide)).mono fun e w' ⟨h1, h2⟩ => ⟨h1.trans (by congr 2 <;> decide +kernel), h2⟩
theorem first_any (w : World) : Calls Try.prog 6 #[] w fun e w' => e = .returned (.bool true) ∧ ∃ n, w' = w.drewN n := by
  go_enter Try.func6, Try.ntmps6
  go_wp2_with fail
  refine (split_ex _).mono ?_; rintro e w' ⟨rfl, n, rfl⟩
  go_wp2_with fail
  refine (key_any ⟨#[97, 110, 110]⟩ ⟨#[104, 111, 109, 101]⟩ _ (by decide) (by decide)).mono ?_; rintro e w' ⟨rfl, rfl⟩
  rw [show keyB ⟨#[97, 110, 110]⟩ ⟨#[104, 111, 109, 101]⟩ = ⟨#[97, 110, 110, 47, 104, 111, 109, 101]⟩ by decide +kernel]
  go_wp2_with fail
  refine (name_any ⟨#[97, 45]⟩ _ (by decide)).mono ?_; rintro e w' ⟨rfl, rfl⟩
  rw [show nameB (ByteArray.mk #[97, 45]).data.toList = false by decide +kernel]
  go_wp2_with fail
  refine (uid_any ⟨#[97, 64, 98]⟩ _ (by decide)).mono ?_; rintro e w' ⟨rfl, rfl⟩
  rw [show uidB (ByteArray.mk #[97, 64, 98]).data.toList = true by decide +kernel]
  go_wp2
  go_ret
  exact ⟨rfl, _, rfl⟩
end Go.Proofs.Ytjabpchkdcdiaaa
