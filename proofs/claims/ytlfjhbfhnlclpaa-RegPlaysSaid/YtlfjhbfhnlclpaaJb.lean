/- Sums of names: fnv.Sum and fnv.Shard. -/
import Derived.Test.YtlfjhbfhnlclpaaProg
import Derived.WalkKit
import Derived.Lib.Hide
namespace Go.Proofs.Ytlfjhbfhnlclpaa
open Go.RowKit
set_option linter.unusedVariables false
def stp (x : Int) (c : UInt8) : Int := IntKind.u64.wrap (bits .xor .u64 x (IntKind.u64.wrap (c.toNat : Int)) * 1099511628211)
def sm (l : List UInt8) : Int := l.foldl stp 14695981039346656037
theorem sm_snoc (l : List UInt8) (c : UInt8) : sm (l ++ [c]) = stp (sm l) c := by simp [sm]
theorem stp_rng (x : Int) (c : UInt8) : 0 ≤ stp x c ∧ stp x c < 18446744073709551616 := by
  unfold stp; rw [IntKind.wrap_u64]; omega
theorem sm_rng (l : List UInt8) : 0 ≤ sm l ∧ sm l < 18446744073709551616 := by
  rcases List.eq_nil_or_concat l with rfl | ⟨i, c, rfl⟩
  · simp [sm]
  · rw [List.concat_eq_append, sm_snoc]; exact stp_rng _ _
theorem sm_take (s : ByteArray) (k : Nat) (h : k < s.size) : s.data.toList.take (k + 1) = s.data.toList.take k ++ [s[k]] := by
  rw [List.take_succ_eq_append_getElem (by simpa using h)]; rfl
theorem sm_all (s : ByteArray) (k : Nat) (h : ¬ k < s.size) : s.data.toList.take k = s.data.toList :=
  List.take_of_length_le (by simpa using h)
theorem sm_ret {a b : Int} (h : a = b) : Ending.returned (Value.int .u64 a) = .returned (.int .u64 b) := by rw [h]
theorem sm_ret64 {a b : Int} (h : a = b) : Ending.returned (Value.int .i64 a) = .returned (.int .i64 b) := by rw [h]
set_option maxHeartbeats 400000 in
theorem sum_any (s : ByteArray) (w : World) (hs : s.size ≤ maxLen) :
    Calls Try.prog 34 #[.string s] w fun e w' => e = .returned (.int .u64 (sm s.data.toList)) ∧ w = w' := by
  unfold maxLen at hs
  go_enter Try.func34, Try.ntmps34
  go_wp2
  go_loop [3, 7] (fun h i => ∃ k : Nat, k ≤ s.size ∧ i = .int .i64 k ∧ h = .int .u64 (sm (s.data.toList.take k))) (fun _ i => s.size - (intOf i).toNat)
  case atStart => exact ⟨0, Nat.zero_le _, rfl, rfl⟩
  case round =>
    obtain ⟨k, hk, rfl, rfl⟩ := hrel
    by_cases hlt : k < s.size
    · have HS := Lib.hid (sm_take s k hlt)
      go_wp2
      all_goals go_round
      case rel => exact ⟨k + 1, by omega, by go_num, by rw [HS.out, sm_snoc]; rfl⟩
      case measure => simp [intOf]; omega
    · have HS := Lib.hid (sm_all s k hlt)
      go_wp2
      go_ret
      exact ⟨sm_ret (by rw [HS.out]), rfl⟩
theorem rem_rng (a n : Int) (hn : 1 ≤ n) (h2 : n ≤ 9223372036854775807) : wrap64 (a % n) = a % n := by
  have h1 := Int.emod_nonneg a (b := n) (by omega)
  have h3 := Int.emod_lt_of_pos a (b := n) (by omega)
  exact IntWalk.wrap64_in _ (by omega)
set_option maxHeartbeats 400000 in
theorem shard_some (s : ByteArray) (n : Int) (w : World) (hs : s.size ≤ maxLen) (hn : 1 ≤ n) (hn2 : n ≤ 9223372036854775807) :
    Calls Try.prog 24 #[.string s, .int .i64 n] w fun e w' => e = .returned (.int .i64 (sm s.data.toList % n)) ∧ w' = w := by
  have hr := sm_rng s.data.toList
  have HW := Lib.hid (rem_rng (sm s.data.toList) n hn hn2)
  go_enter Try.func24, Try.ntmps24
  go_wp2_with (go_at_call 34; refine (sum_any _ _ hs).mono ?_; rintro e w' ⟨rfl, rfl⟩)
  go_ret
  exact ⟨sm_ret64 HW.out, rfl⟩
/-- The shard of a text. -/
def shd (n : Int) (k : ByteArray) : Int := sm k.data.toList % n
theorem shd_rng (n : Int) (k : ByteArray) (h : 1 ≤ n) : 0 ≤ shd n k ∧ shd n k < n := ⟨Int.emod_nonneg _ (by omega), Int.emod_lt_of_pos _ (by omega)⟩
end Go.Proofs.Ytlfjhbfhnlclpaa
