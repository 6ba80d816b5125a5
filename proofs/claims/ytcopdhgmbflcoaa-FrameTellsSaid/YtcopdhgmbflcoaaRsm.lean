/- The document's sum of a frame: its walk. -/
import Derived.Test.YtcopdhgmbflcoaaBac
namespace Go.Proofs.Ytcopdhgmbflcoaa
open Go.RowKit
set_option linter.unusedVariables false
theorem rs1 (a c : Int) (h1 : 0 ≤ a) (h2 : a < 256) (h3 : 0 ≤ c) (h4 : c < 256) : (wrap64 (a + c)).tmod 256 = (a + c) % 256 := by
  rw [IntWalk.wrap64_in _ (by omega), Int.tmod_eq_emod_of_nonneg (by omega)]
theorem rs2 (p : Int × Int) (c : UInt8) (h : (0 ≤ p.1 ∧ p.1 < 256) ∧ 0 ≤ p.2 ∧ p.2 < 256) : (wrap64 (p.1 + wrap64 (c.toNat : Int))).tmod 256 = (stp p c).1 ∧ (wrap64 (p.2 + (wrap64 (p.1 + wrap64 (c.toNat : Int))).tmod 256)).tmod 256 = (stp p c).2 := by
  have hc := c.toNat_lt
  rw [IntWalk.wrap64_in (c.toNat : Int) (by omega), rs1 _ _ h.1.1 h.1.2 (by omega) (by omega), rs1 _ _ h.2.1 h.2.2 (by omega) (by omega)]
  exact ⟨rfl, rfl⟩
theorem rsum_any (k : Int) (s : ByteArray) (w : World) (hs : s.size ≤ maxLen) :
    Calls Try.prog 13 #[.int .i64 k, .string s] w fun e w' => e = .returned (.int .i64 (fsm k s.data.toList)) ∧ w = w' := by
  unfold maxLen at hs
  have n0 : bits .and .i64 k 255 = k % 256 := i64_low k 8 (by omega)
  go_enter Try.func13, Try.ntmps13
  go_wp2
  go_loop [5, 6, 7] (fun a b i => ∃ n : Nat, n ≤ s.size ∧ i = .int .i64 n ∧ a = .int .i64 (sts k (s.data.toList.take n)).1 ∧ b = .int .i64 (sts k (s.data.toList.take n)).2) (fun _ _ i => s.size - (intOf i).toNat)
  case atStart =>
    refine ⟨0, Nat.zero_le _, rfl, ?_, ?_⟩
    · simp only [List.take_zero, sts, List.foldl_nil, st0]; congr 1; omega
    · simp only [List.take_zero, sts, List.foldl_nil, st0]; congr 1; omega
  case round =>
    obtain ⟨n, hk, rfl, rfl, rfl⟩ := hrel
    have hr := sts_rng k (s.data.toList.take n)
    by_cases hlt : n < s.size
    · have HS := Lib.hid (take_snoc s n hlt)
      go_wp2
      all_goals go_round
      case rel =>
        have h2 := rs2 _ s[n] hr
        exact ⟨n + 1, by omega, by go_num, by rw [HS.out, sts_snoc, ← h2.1], by rw [HS.out, sts_snoc, ← h2.2]⟩
      case measure => simp [intOf]; omega
    · have HS := Lib.hid (take_all s n hlt)
      go_wp2
      go_ret
      exact ⟨ret_i64 (by rw [HS.out]; unfold fsm; omega), rfl⟩
end Go.Proofs.Ytcopdhgmbflcoaa
