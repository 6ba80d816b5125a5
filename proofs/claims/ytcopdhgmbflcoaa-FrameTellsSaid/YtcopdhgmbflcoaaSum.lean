/- frame.Sum: its walk, and the bit laws that it and the others need. No conditions but that a text is no longer than a text may be. -/
import Derived.Test.YtcopdhgmbflcoaaProg
import Derived.Test.YtcopdhgmbflcoaaWords
import Derived.WalkKit
import Derived.Laws.BitsAllLaws
import Derived.Lib.Hide
namespace Go.Proofs.Ytcopdhgmbflcoaa
open Go.RowKit
set_option linter.unusedVariables false
def stA (p : Int × Int) (c : UInt8) : Int := (p.1 + (c.toNat : Int)) % 256
def stp (p : Int × Int) (c : UInt8) : Int × Int := (stA p c, (p.2 + stA p c) % 256)
def st0 (k : Int) : Int × Int := ((1 + k) % 256, (1 + k) % 256)
def sts (k : Int) (l : List UInt8) : Int × Int := l.foldl stp (st0 k)
def fsm (k : Int) (l : List UInt8) : Int := (sts k l).2 * 256 + (sts k l).1
theorem sts_snoc (k : Int) (l : List UInt8) (c : UInt8) : sts k (l ++ [c]) = stp (sts k l) c := by simp [sts]
theorem u8_rng (x : Int) : 0 ≤ x % 256 ∧ x % 256 < 256 := by omega
theorem sts_rng (k : Int) (l : List UInt8) : (0 ≤ (sts k l).1 ∧ (sts k l).1 < 256) ∧ 0 ≤ (sts k l).2 ∧ (sts k l).2 < 256 := by
  rcases List.eq_nil_or_concat l with rfl | ⟨i, c, rfl⟩
  · exact ⟨u8_rng _, u8_rng _⟩
  · rw [List.concat_eq_append, sts_snoc]; exact ⟨u8_rng _, u8_rng _⟩
theorem take_snoc (s : ByteArray) (k : Nat) (h : k < s.size) : s.data.toList.take (k + 1) = s.data.toList.take k ++ [s[k]] := by
  rw [List.take_succ_eq_append_getElem (by simpa using h)]; rfl
theorem take_all (s : ByteArray) (k : Nat) (h : ¬ k < s.size) : s.data.toList.take k = s.data.toList :=
  List.take_of_length_le (by simpa using h)

theorem i64_or (a b : Int) (h1 : 0 ≤ a) (h2 : a < 9223372036854775808) (h3 : 0 ≤ b) (h4 : b < 9223372036854775808) : bits .or .i64 a b = ((a.toNat ||| b.toNat : Nat) : Int) := by
  obtain ⟨A, rfl⟩ := Int.eq_ofNat_of_zero_le h1
  obtain ⟨B, rfl⟩ := Int.eq_ofNat_of_zero_le h3
  have hx : A ||| B < 2 ^ 63 := Nat.or_lt_two_pow (by omega) (by omega)
  show IntKind.i64.wrap ((BitVec.ofInt 64 (A : Int) ||| BitVec.ofInt 64 (B : Int)).toNat : Int) = _
  rw [BitVec.toNat_or, ofInt_u64 A (by omega), ofInt_u64 B (by omega), IntWalk.i64_in _ (by omega)]
  rfl
theorem i64_and (a b : Int) (h3 : 0 ≤ b) (h4 : b < 9223372036854775808) : bits .and .i64 a b = (((BitVec.ofInt 64 a).toNat &&& b.toNat : Nat) : Int) := by
  obtain ⟨B, rfl⟩ := Int.eq_ofNat_of_zero_le h3
  have hx : (BitVec.ofInt 64 a).toNat &&& B < 2 ^ 63 := Nat.and_lt_two_pow _ (by omega)
  show IntKind.i64.wrap ((BitVec.ofInt 64 a &&& BitVec.ofInt 64 (B : Int)).toNat : Int) = _
  rw [BitVec.toNat_and, ofInt_u64 B (by omega), IntWalk.i64_in _ (by omega)]
  rfl
theorem i64_low (a : Int) (i : Nat) (hi : i < 63) : bits .and .i64 a (2 ^ i - 1) = a % 2 ^ i := by
  have hp : (2 : Int) ^ i ≤ 2 ^ 62 := by exact_mod_cast Nat.pow_le_pow_right (by omega) (show i ≤ 62 by omega)
  have hq : (0 : Int) < 2 ^ i := by exact_mod_cast Nat.two_pow_pos i
  have e : ((2 : Int) ^ i - 1).toNat = 2 ^ i - 1 := by have : ((2 : Int) ^ i) = ((2 ^ i : Nat) : Int) := by push_cast; rfl
                                                       omega
  rw [i64_and a _ (by omega) (by omega), e, Nat.and_two_pow_sub_one_eq_mod, BitVec.toNat_ofInt]
  have h64 : ((2 : Int) ^ i) ∣ 2 ^ 64 := by exact_mod_cast Int.natCast_dvd_natCast.2 (Nat.pow_dvd_pow 2 (show i ≤ 64 by omega))
  rw [Int.natCast_emod, Int.toNat_of_nonneg (Int.emod_nonneg _ (by decide))]
  rw [show (((2 ^ i : Nat) : Int)) = 2 ^ i by exact_mod_cast rfl]
  exact Int.emod_emod_of_dvd _ h64
theorem or_join (i : Nat) (a b : Int) (h0 : 0 ≤ a) (h1 : a < 9223372036854775808) (hm : a.toNat % 2 ^ i = 0) (h2 : 0 ≤ b) (h3 : b < 2 ^ i) (hi : i < 63) : bits .or .i64 a b = a + b := by
  have hp : (2 : Int) ^ i ≤ 2 ^ 62 := by exact_mod_cast Nat.pow_le_pow_right (by omega) (show i ≤ 62 by omega)
  have hb : b.toNat < 2 ^ i := by have : ((b.toNat : Int)) < ((2 ^ i : Nat) : Int) := by push_cast; omega
                                  exact_mod_cast this
  rw [i64_or a b h0 (by omega) h2 (by omega), nat_join i _ _ hm hb]
  omega
set_option maxHeartbeats 400000 in
theorem sum_any (k : Int) (s : ByteArray) (w : World) (hs : s.size ≤ maxLen) :
    Calls Try.prog 12 #[.int .i64 k, .string s] w fun e w' => e = .returned (.int .i64 (fsm k s.data.toList)) ∧ w = w' := by
  unfold maxLen at hs
  go_enter Try.func12, Try.ntmps12
  go_wp2
  go_loop [5, 6, 17] (fun a b i => ∃ n : Nat, n ≤ s.size ∧ i = .int .i64 n ∧ a = .int .u8 (sts k (s.data.toList.take n)).1 ∧ b = .int .u8 (sts k (s.data.toList.take n)).2) (fun _ _ i => s.size - (intOf i).toNat)
  case atStart => exact ⟨0, Nat.zero_le _, rfl, by simp [sts, st0], by simp [sts, st0]⟩
  case round =>
    obtain ⟨n, hk, rfl, rfl, rfl⟩ := hrel
    by_cases hlt : n < s.size
    · have HS := Lib.hid (take_snoc s n hlt)
      go_wp2
      all_goals go_round
      case rel => exact ⟨n + 1, by omega, by go_num, by rw [HS.out, sts_snoc]; rfl, by rw [HS.out, sts_snoc]; rfl⟩
      case measure => simp [intOf]; omega
    · have HS := Lib.hid (take_all s n hlt)
      have hr := sts_rng k (s.data.toList.take n)
      go_wp2
      go_ret
      exact ⟨ret_i64 (by rw [HS.out] at hr ⊢; unfold fsm; exact or_join 8 _ _ (by omega) (by omega) (by omega) (by omega) (by omega) (by omega)), rfl⟩
end Go.Proofs.Ytcopdhgmbflcoaa
