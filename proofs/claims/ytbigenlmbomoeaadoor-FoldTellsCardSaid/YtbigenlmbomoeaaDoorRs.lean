/- The reference's Signs. -/
import Derived.Test.YtbigenlmbomoeaaDoorSg
namespace Go.Proofs.YtbigenlmbomoeaaDoor
open Go.RowKit
open Go.Lib hiding intOf
set_option linter.unusedVariables false
set_option maxRecDepth 20000
set_option maxHeartbeats 2000000 in
theorem rsigns_any (s : ByteArray) (hs : s.size ≤ 1000000) (w : World) : Calls Tryd.prog 15 #[.string s] w fun e w' => e = .returned (.int .i64 (signs s : Int)) ∧ w' = w := by
  obtain ⟨r, hr⟩ : ∃ r, signs s = r := ⟨_, rfl⟩
  rw [hr]
  have HR := Lib.hid (show r = if validD s.data.toList = true then rcL s.data.toList else 0 by rw [← hr, signs_eq])
  clear hr
  have HS := Lib.hid (sign_any s hs)
  have HL := Lib.hid (show s.data.toList.length = s.size by simp)
  go_enter Tryd.func15, Tryd.ntmps15
  go_wp2
  go_loop [3, 4] (fun n i => ∃ k m : Nat, k ≤ s.size ∧ m ≤ k ∧ i = .int .i64 (k : Int) ∧ n = .int .i64 (m : Int) ∧ validD s.data.toList = validD (s.data.toList.drop k) ∧ rcL s.data.toList = m + rcL (s.data.toList.drop k)) (fun _ i => s.size - (intOf i).toNat)
  case atStart => exact ⟨0, 0, by omega, by omega, rfl, rfl, by simp, by simp⟩
  case round =>
    obtain ⟨k, m, hk, hm, rfl, rfl, h1, h2⟩ := hrel
    have H1 := Lib.hid h1
    have H2 := Lib.hid h2
    clear h1 h2
    by_cases hlt : k < s.size
    · have hne : s.data.toList.drop k ≠ [] := fun e => by have := congrArg List.length e; simp at this; omega
      have HV := Lib.hid (signN_valid _ hne)
      have HW := Lib.hid (signN_width _ hne)
      have HC := Lib.hid (rcL_step _ hne)
      have HD := Lib.hid (fun x => (List.drop_drop : (s.data.toList.drop k).drop x = s.data.toList.drop (k + x)))
      have HLe := Lib.hid (show (s.data.toList.drop k).length = s.size - k by simp)
      have hS := HS.out k hlt
      obtain ⟨x, hx⟩ : ∃ x, signN (s.data.toList.drop k) = x := ⟨_, rfl⟩
      rw [hx] at HV HW hS
      have HSx := Lib.hid hS
      clear hS hx hne
      cases x with
      | zero =>
        have H0 := Lib.hid (show r = 0 by rw [HR.out, H1.out, HV.out]; simp)
        go_wp2_with (go_at_call 19; refine (HSx.out _).mono ?_; rintro e w1 ⟨rfl, rfl⟩)
        go_ret
        exact ⟨by rw [H0.out]; rfl, rfl⟩
      | succ x =>
        have hw := (HW.out (by omega)).2.2
        rw [HLe.out] at hw
        have HH := Lib.hid (HW.out (by omega)).1
        have x0 : ((((x + 1 : Nat) : Int)) == 0) = false := by simp; omega
        go_wp2_with (go_at_call 19; refine (HSx.out _).mono ?_; rintro e w1 ⟨rfl, rfl⟩)
        exact ⟨⟨k + (x + 1), m + 1, by omega, by omega, by go_num, by go_num, by rw [H1.out, HV.out, HD.out]; simp, by rw [H2.out, HC.out, HH.out, HD.out]; omega⟩, by simp [intOf]; omega⟩
    · have hks : k = s.size := by omega
      subst hks
      have H0 := Lib.hid (show r = m by
        have e : s.data.toList.drop s.size = [] := List.drop_of_length_le (by simp)
        have h1 := H1.out
        have h2 := H2.out
        rw [e] at h1 h2
        rw [HR.out, h1, h2]; rfl)
      go_wp2
      go_ret
      exact ⟨by rw [H0.out]; rfl, rfl⟩
end Go.Proofs.YtbigenlmbomoeaaDoor
