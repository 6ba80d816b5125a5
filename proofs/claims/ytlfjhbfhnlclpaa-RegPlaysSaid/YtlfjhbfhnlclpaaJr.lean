/- Sums of names: the reference's. -/
import Derived.Test.YtlfjhbfhnlclpaaJb
namespace Go.Proofs.Ytlfjhbfhnlclpaa
open Go.RowKit
set_option linter.unusedVariables false
set_option maxHeartbeats 400000 in
theorem sumOf_any (s : ByteArray) (w : World) (hs : s.size ≤ maxLen) :
    Calls Try.prog 39 #[.string s] w fun e w' => e = .returned (.int .u64 (sm s.data.toList)) ∧ w = w' := by
  unfold maxLen at hs
  go_enter Try.func39, Try.ntmps39
  go_wp2
  go_loop [3, 4] (fun h i => ∃ k : Nat, k ≤ s.size ∧ i = .int .i64 k ∧ h = .int .u64 (sm (s.data.toList.take k))) (fun _ i => s.size - (intOf i).toNat)
  case atStart => exact ⟨0, Nat.zero_le _, rfl, rfl⟩
  case round =>
    obtain ⟨k, hk, rfl, rfl⟩ := hrel
    by_cases hlt : k < s.size
    · have HS := Lib.hid (sm_take s k hlt)
      go_wp2
      all_goals go_round
      case rel => exact ⟨k + 1, by omega, by go_num, by rw [HS.out, sm_snoc]; rfl⟩
      case measure => simp [intOf]; omega
    · have HS := Lib.hid (sm_all s k hlt)
      go_wp2
      go_ret
      exact ⟨sm_ret (by rw [HS.out]), rfl⟩
set_option maxHeartbeats 400000 in
theorem rshard_some (s : ByteArray) (n : Int) (w : World) (hs : s.size ≤ maxLen) (hn : 1 ≤ n) (hn2 : n ≤ 9223372036854775807) :
    Calls Try.prog 31 #[.string s, .int .i64 n] w fun e w' => e = .returned (.int .i64 (shd n s)) ∧ w' = w := by
  have hr := sm_rng s.data.toList
  have HW := Lib.hid (rem_rng (sm s.data.toList) n hn hn2)
  go_enter Try.func31, Try.ntmps31
  go_wp2_with (go_at_call 39; refine (sumOf_any _ _ hs).mono ?_; rintro e w' ⟨rfl, rfl⟩)
  go_ret
  exact ⟨sm_ret64 HW.out, rfl⟩
end Go.Proofs.Ytlfjhbfhnlclpaa
