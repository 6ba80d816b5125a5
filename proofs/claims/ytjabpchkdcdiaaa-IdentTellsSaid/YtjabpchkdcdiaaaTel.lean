/- IdentTells' walk. -/
import Derived.Test.YtjabpchkdcdiaaaFst
namespace Go.Proofs.Ytjabpchkdcdiaaa
open Go.RowKit
set_option linter.unusedVariables false
set_option maxHeartbeats 800000 in
theorem identTells_walk (w : World) (a0 : ByteArray) (w0 : a0.size ≤ maxLen) (a1 : ByteArray) (w1 : a1.size ≤ maxLen) :
    Calls Try.prog 3 #[.string a0, .string a1] w fun e w' => e = .returned (.bool true) ∧ Below w.heap.size w w' := by
  have W0 := Lib.hid w0
  have W1 := Lib.hid w1
  unfold maxLen at w0 w1
  by_cases h0 : 200 < a0.size
  · go_enter Try.func3, Try.ntmps3
    go_wp2_with fail
    refine (first_any _).mono ?_; rintro e w' ⟨rfl, n, rfl⟩
    go_wp2_with fail
    refine (first_any _).mono ?_; rintro e w' ⟨rfl, m, rfl⟩
    go_wp2
    go_ret
    exact ⟨rfl, below_drewN (Below.refl _ _) _⟩
  by_cases h1 : 200 < a1.size
  · go_enter Try.func3, Try.ntmps3
    go_wp2_with fail
    refine (first_any _).mono ?_; rintro e w' ⟨rfl, n, rfl⟩
    go_wp2_with fail
    refine (first_any _).mono ?_; rintro e w' ⟨rfl, m, rfl⟩
    go_wp2
    go_ret
    exact ⟨rfl, below_drewN (Below.refl _ _) _⟩
  obtain ⟨x, hx⟩ : ∃ x, x = (spl a0).1 := ⟨_, rfl⟩
  obtain ⟨y, hy⟩ : ∃ y, y = (spl a0).2.1 := ⟨_, rfl⟩
  obtain ⟨z, hz⟩ : ∃ z, z = (spl a0).2.2 := ⟨_, rfl⟩
  obtain ⟨p, hp⟩ : ∃ p, p = nameB a0.data.toList := ⟨_, rfl⟩
  obtain ⟨q, hq⟩ : ∃ q, q = uidB a0.data.toList := ⟨_, rfl⟩
  obtain ⟨r, hr⟩ : ∃ r, r = keyB a0 a1 := ⟨_, rfl⟩
  have C7 := Lib.hid (fun W => split_any a0 W W0.out)
  have C8 := Lib.hid (fun W => rsplit_any a0 W W0.out)
  have C9 := Lib.hid (fun W => name_any a0 W W0.out)
  have C10 := Lib.hid (fun W => rname_any a0 W W0.out)
  have C11 := Lib.hid (fun W => uid_any a0 W W0.out)
  have C12 := Lib.hid (fun W => ruid_any a0 W W0.out)
  have C13 := Lib.hid (fun W => key_any a0 a1 W W0.out W1.out)
  have C14 := Lib.hid (fun W => rkey_any a0 a1 W W0.out W1.out)
  rw [← hx, ← hy, ← hz] at C7 C8
  rw [← hp] at C9 C10
  rw [← hq] at C11 C12
  rw [← hr] at C13 C14
  clear hx hy hz hp hq hr
  go_enter Try.func3, Try.ntmps3
  go_wp2_with fail
  refine (first_any _).mono ?_; rintro e w' ⟨rfl, n, rfl⟩
  go_wp2_with fail
  refine (C7.out _).mono ?_; rintro e w' ⟨rfl, n2, rfl⟩
  go_wp2_with fail
  refine (C8.out _).mono ?_; rintro e w' ⟨rfl, n3, rfl⟩
  go_wp2_with fail
  refine (C9.out _).mono ?_; rintro e w' ⟨rfl, rfl⟩
  go_wp2_with fail
  refine (C10.out _).mono ?_; rintro e w' ⟨rfl, rfl⟩
  go_wp2_with fail
  refine (C11.out _).mono ?_; rintro e w' ⟨rfl, rfl⟩
  go_wp2_with fail
  refine (C12.out _).mono ?_; rintro e w' ⟨rfl, rfl⟩
  go_wp2_with fail
  refine (C13.out _).mono ?_; rintro e w' ⟨rfl, rfl⟩
  go_wp2_with fail
  refine (C14.out _).mono ?_; rintro e w' ⟨rfl, rfl⟩
  go_wp2
  go_ret
  exact ⟨by simp, below_drewN (Below.refl _ _) _⟩
end Go.Proofs.Ytjabpchkdcdiaaa
