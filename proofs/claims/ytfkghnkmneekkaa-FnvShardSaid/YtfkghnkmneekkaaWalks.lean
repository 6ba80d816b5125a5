/- The walks over fnv.Sum, henref17.SumOf, fnv.Shard and the three laws of chapter 20: each law returns true for every text, every byte, every number. No conditions but that a text is no longer than a text may be. -/
import Derived.Test.YtfkghnkmneekkaaProg
import Derived.WalkKit
import Derived.Lib.Hide
namespace Go.Proofs.Ytfkghnkmneekkaa
open Go.RowKit

def stp (x : Int) (c : UInt8) : Int := IntKind.u64.wrap (bits .xor .u64 x (IntKind.u64.wrap (c.toNat : Int)) * 1099511628211)
def sm (l : List UInt8) : Int := l.foldl stp 14695981039346656037
theorem sm_snoc (l : List UInt8) (c : UInt8) : sm (l ++ [c]) = stp (sm l) c := by simp [sm]
theorem stp_rng (x : Int) (c : UInt8) : 0 ≤ stp x c ∧ stp x c < 18446744073709551616 := by
  unfold stp; rw [IntKind.wrap_u64]; omega
theorem sm_rng (l : List UInt8) : 0 ≤ sm l ∧ sm l < 18446744073709551616 := by
  rcases List.eq_nil_or_concat l with rfl | ⟨i, c, rfl⟩
  · simp [sm]
  · rw [List.concat_eq_append, sm_snoc]; exact stp_rng _ _
theorem take_snoc (s : ByteArray) (k : Nat) (h : k < s.size) : s.data.toList.take (k + 1) = s.data.toList.take k ++ [s[k]] := by
  rw [List.take_succ_eq_append_getElem (by simpa using h)]; rfl
theorem take_all (s : ByteArray) (k : Nat) (h : ¬ k < s.size) : s.data.toList.take k = s.data.toList :=
  List.take_of_length_le (by simpa using h)
theorem ret_u64 {a b : Int} (h : a = b) : Ending.returned (Value.int .u64 a) = .returned (.int .u64 b) := by rw [h]

set_option maxHeartbeats 400000 in
theorem sum_any (s : ByteArray) (w : World) (hs : s.size ≤ maxLen) :
    Calls Try.prog 7 #[.string s] w fun e w' => e = .returned (.int .u64 (sm s.data.toList)) ∧ w = w' := by
  unfold maxLen at hs
  go_enter Try.func7, Try.ntmps7
  go_wp2
  go_loop [3, 7] (fun h i => ∃ k : Nat, k ≤ s.size ∧ i = .int .i64 k ∧ h = .int .u64 (sm (s.data.toList.take k))) (fun _ i => s.size - (intOf i).toNat)
  case atStart => exact ⟨0, Nat.zero_le _, rfl, rfl⟩
  case round =>
    obtain ⟨k, hk, rfl, rfl⟩ := hrel
    by_cases hlt : k < s.size
    · have HS := Lib.hid (take_snoc s k hlt)
      go_wp2
      all_goals go_round
      case rel => exact ⟨k + 1, by omega, by go_num, by rw [HS.out, sm_snoc]; rfl⟩
      case measure => simp [intOf]; omega
    · have HS := Lib.hid (take_all s k hlt)
      go_wp2
      go_ret
      exact ⟨ret_u64 (by rw [HS.out]), rfl⟩

set_option maxHeartbeats 400000 in
theorem sumOf_any (s : ByteArray) (w : World) (hs : s.size ≤ maxLen) :
    Calls Try.prog 8 #[.string s] w fun e w' => e = .returned (.int .u64 (sm s.data.toList)) ∧ w = w' := by
  unfold maxLen at hs
  go_enter Try.func8, Try.ntmps8
  go_wp2
  go_loop [3, 4] (fun h i => ∃ k : Nat, k ≤ s.size ∧ i = .int .i64 k ∧ h = .int .u64 (sm (s.data.toList.take k))) (fun _ i => s.size - (intOf i).toNat)
  case atStart => exact ⟨0, Nat.zero_le _, rfl, rfl⟩
  case round =>
    obtain ⟨k, hk, rfl, rfl⟩ := hrel
    by_cases hlt : k < s.size
    · have HS := Lib.hid (take_snoc s k hlt)
      go_wp2
      all_goals go_round
      case rel => exact ⟨k + 1, by omega, by go_num, by rw [HS.out, sm_snoc]; rfl⟩
      case measure => simp [intOf]; omega
    · have HS := Lib.hid (take_all s k hlt)
      go_wp2
      go_ret
      exact ⟨ret_u64 (by rw [HS.out]), rfl⟩

set_option maxHeartbeats 400000 in
theorem shard_none (s : ByteArray) (n : Int) (w : World) (hn : n < 1) :
    Calls Try.prog 9 #[.string s, .int .i64 n] w fun e w' => e = .returned (.int .i64 0) ∧ w = w' := by
  go_enter Try.func9, Try.ntmps9
  go_wp2
  go_ret
  exact ⟨rfl, rfl⟩

theorem ret_i64 {a b : Int} (h : a = b) : Ending.returned (Value.int .i64 a) = .returned (.int .i64 b) := by rw [h]
theorem ret_bool {a b : Bool} (h : a = b) : Ending.returned (Value.bool a) = .returned (.bool b) := by rw [h]
theorem rem_rng (a n : Int) (hn : 1 ≤ n) (h2 : n ≤ 9223372036854775807) : wrap64 (a % n) = a % n := by
  have h1 := Int.emod_nonneg a (b := n) (by omega)
  have h3 := Int.emod_lt_of_pos a (b := n) (by omega)
  exact IntWalk.wrap64_in _ (by omega)

set_option maxHeartbeats 400000 in
theorem shard_some (s : ByteArray) (n : Int) (w : World) (hs : s.size ≤ maxLen) (hn : 1 ≤ n) (hn2 : n ≤ 9223372036854775807) :
    Calls Try.prog 9 #[.string s, .int .i64 n] w fun e w' => e = .returned (.int .i64 (sm s.data.toList % n)) ∧ w = w' := by
  have hr := sm_rng s.data.toList
  have HW := Lib.hid (rem_rng (sm s.data.toList) n hn hn2)
  go_enter Try.func9, Try.ntmps9
  go_wp2_with (go_at_call 7; refine (sum_any _ _ hs).mono ?_; rintro e w' ⟨rfl, rfl⟩)
  go_ret
  exact ⟨ret_i64 HW.out, rfl⟩

theorem sum_e (w : World) : Calls Try.prog 7 #[.string { data := #[] }] w fun e w' => e = .returned (.int .u64 14695981039346656037) ∧ w = w' :=
  sum_any _ w (by decide)
theorem sum_a (w : World) : Calls Try.prog 7 #[.string { data := #[97] }] w fun e w' => e = .returned (.int .u64 12638187200555641996) ∧ w = w' :=
  (sum_any _ w (by decide)).mono fun _ _ ⟨h, h2⟩ => ⟨h.trans (ret_u64 (by decide +kernel)), h2⟩
theorem first_any (w : World) : Calls Try.prog 6 #[] w fun e w' => e = .returned (.bool true) ∧ w = w' := by
  go_enter Try.func6, Try.ntmps6
  go_wp2_with fail
  refine (sum_e _).mono ?_; rintro e w' ⟨rfl, rfl⟩
  go_wp2_with fail
  refine (sum_a _).mono ?_; rintro e w' ⟨rfl, rfl⟩
  go_wp2_with fail
  refine (shard_none _ _ _ (by omega)).mono ?_; rintro e w' ⟨rfl, rfl⟩
  go_wp2
  go_ret
  exact ⟨rfl, rfl⟩

theorem rem_zero (a n : Int) (ha : 0 ≤ a ∧ a < 18446744073709551616) (hn : 1 ≤ n) : ((IntKind.u64.wrap (a - a % n)).tmod n == 0) = true := by
  have h1 := Int.emod_nonneg a (b := n) (by omega)
  have h2 : a % n ≤ a := by have h3 := Int.mul_ediv_add_emod a n; have h4 : 0 ≤ a / n := Int.ediv_nonneg ha.1 (by omega); have h5 := Int.mul_nonneg (show 0 ≤ n by omega) h4; omega
  rw [beq_iff_eq, IntWalk.u64_in _ (by omega), Int.tmod_eq_emod_of_nonneg (by omega)]
  exact Int.emod_eq_zero_of_dvd (Int.dvd_self_sub_emod)
theorem sum_next (s : ByteArray) (u : UInt8) : (sm (s ++ ByteArray.mk #[u]).data.toList == IntKind.u64.wrap (bits .xor .u64 (sm s.data.toList) (IntKind.u64.wrap (u.toNat : Int)) * 1099511628211)) = true := by
  have h : (s ++ ByteArray.mk #[u]).data.toList = s.data.toList ++ [u] := by simp
  rw [h, sm_snoc, beq_iff_eq]
  rfl
theorem byte_of (b : Int) (h : 0 ≤ b ∧ b ≤ 255) : ∃ u : UInt8, b = (u.toNat : Int) :=
  ⟨UInt8.ofNat b.toNat, by simp; omega⟩
theorem one_string (u : UInt8) (W : World) : (convert 26 9 (.slice (some ⟨W.heap.size, 0, none⟩) 1 1)).run Try.prog (W.alloc (.cells #[.int .u8 (u.toNat : Int)] 5)) = .ok (.string ⟨#[u]⟩) (W.alloc (.cells #[.int .u8 (u.toNat : Int)] 5)) :=
  run_convert_bytes_back _ 26 9 5 _ 1 [u] Try.underlying26 Try.underlying5 Try.underlying9 (fun j hj => by
    obtain rfl : j = 0 := by simpa using hj
    simp [go_sem])

set_option maxHeartbeats 400000 in
theorem fnvTells_walk (s : ByteArray) (hs : s.size ≤ maxLen) (w : World) : Calls Try.prog 3 #[.string s] w fun e w' => e = .returned (.bool true) ∧ Grown w w' := by
  by_cases h : 4000 < s.size
  all_goals
    go_enter Try.func3, Try.ntmps3
    go_wp2_with (first | (go_at_call 6; refine (first_any _).mono ?_; rintro e w' ⟨rfl, rfl⟩) | (go_at_call 7; refine (sum_any _ _ hs).mono ?_; rintro e w' ⟨rfl, rfl⟩) | (go_at_call 8; refine (sumOf_any _ _ hs).mono ?_; rintro e w' ⟨rfl, rfl⟩))
    go_ret
    exact ⟨by first | rfl | simp, by repeat (first | exact Grown.refl _ | apply Grown.drew | apply Grown.alloc)⟩

set_option maxHeartbeats 400000 in
theorem fnvNext_walk (s : ByteArray) (hs : s.size ≤ maxLen) (b : Int) (wb : (Lit.int .u8 b).wf = true) (w : World) : Calls Try.prog 4 #[.string s, .int .u8 b] w fun e w' => e = .returned (.bool true) ∧ Grown w w' := by
  have hx : 0 ≤ b ∧ b ≤ 255 := by simpa [Lit.wf, IntKind.min, IntKind.max, IntKind.signed, IntKind.bits] using wb
  obtain ⟨u, rfl⟩ := byte_of b hx
  clear hx wb
  by_cases h : 4000 < s.size
  · go_enter Try.func4, Try.ntmps4
    go_wp2_with (first | (go_at_call 6; refine (first_any _).mono ?_; rintro e w' ⟨rfl, rfl⟩))
    go_ret
    exact ⟨by first | rfl | simp, by repeat (first | exact Grown.refl _ | apply Grown.drew | apply Grown.alloc)⟩
  · have hcv := one_string u
    have hsz : s.size + 1 ≤ 9223372036854775807 := by omega
    have hsz2 : (s ++ ByteArray.mk #[u]).size ≤ maxLen := by unfold maxLen; rw [ByteArray.size_append]; show s.size + 1 ≤ _; omega
    go_enter Try.func4, Try.ntmps4
    go_wp2_with (first | (go_at_call 6; refine (first_any _).mono ?_; rintro e w' ⟨rfl, rfl⟩))
    refine (sum_any _ _ hsz2).mono ?_; rintro e w' ⟨rfl, rfl⟩
    go_wp2_with fail
    refine (sum_any _ _ hs).mono ?_; rintro e w' ⟨rfl, rfl⟩
    have HS := Lib.hid (sum_next s u)
    go_wp2
    go_ret
    exact ⟨ret_bool HS.out, by repeat (first | exact Grown.refl _ | apply Grown.drew | apply Grown.alloc)⟩

set_option maxHeartbeats 400000 in
theorem fnvShard_walk (s : ByteArray) (hs : s.size ≤ maxLen) (n : Int) (wn : (Lit.int .i64 n).wf = true) (w : World) : Calls Try.prog 5 #[.string s, .int .i64 n] w fun e w' => e = .returned (.bool true) ∧ Grown w w' := by
  have hx : -9223372036854775808 ≤ n ∧ n ≤ 9223372036854775807 := by simpa [Lit.wf, IntKind.min, IntKind.max, IntKind.signed, IntKind.bits] using wn
  by_cases h : 4000 < s.size
  · go_enter Try.func5, Try.ntmps5
    go_wp2_with (first | (go_at_call 6; refine (first_any _).mono ?_; rintro e w' ⟨rfl, rfl⟩))
    go_ret
    exact ⟨by first | rfl | simp, by repeat (first | exact Grown.refl _ | apply Grown.drew | apply Grown.alloc)⟩
  · by_cases hn : n < 1
    · go_enter Try.func5, Try.ntmps5
      go_wp2_with (first | (go_at_call 6; refine (first_any _).mono ?_; rintro e w' ⟨rfl, rfl⟩) | (go_at_call 9; refine (shard_none _ _ _ hn).mono ?_; rintro e w' ⟨rfl, rfl⟩))
      go_ret
      exact ⟨by first | rfl | simp, by repeat (first | exact Grown.refl _ | apply Grown.drew | apply Grown.alloc)⟩
    · have hr := sm_rng s.data.toList
      have h1 := Int.emod_nonneg (sm s.data.toList) (b := n) (by omega)
      have h3 := Int.emod_lt_of_pos (sm s.data.toList) (b := n) (by omega)
      go_enter Try.func5, Try.ntmps5
      go_wp2_with (first | (go_at_call 6; refine (first_any _).mono ?_; rintro e w' ⟨rfl, rfl⟩) | (go_at_call 9; refine (shard_some _ _ _ hs (by omega) hx.2).mono ?_; rintro e w' ⟨rfl, rfl⟩) | (go_at_call 7; refine (sum_any _ _ hs).mono ?_; rintro e w' ⟨rfl, rfl⟩))
      go_ret
      exact ⟨ret_bool (rem_zero _ n hr (by omega)), Grown.refl _⟩
end Go.Proofs.Ytfkghnkmneekkaa
