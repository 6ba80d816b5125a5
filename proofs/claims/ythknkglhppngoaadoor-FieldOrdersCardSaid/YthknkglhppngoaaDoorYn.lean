/- Dates: the number that digits show. -/
import Derived.Test.YthknkglhppngoaaDoorYm
namespace Go.Proofs.YthknkglhppngoaaDoor.Day
open Go.RowKit
set_option linter.unusedVariables false
set_option maxRecDepth 20000
def isD (c : UInt8) : Bool := decide (48 ≤ (c.toNat : Int) ∧ (c.toNat : Int) ≤ 57)
def valD (l : List UInt8) : Int := l.foldl (fun n c => n * 10 + ((c.toNat : Int) - 48)) 0
def numD (l : List UInt8) : Int := if l.all isD = true then valD l else -1
theorem valD_snoc (l : List UInt8) (c : UInt8) : valD (l ++ [c]) = valD l * 10 + ((c.toNat : Int) - 48) := by
  unfold valD; rw [List.foldl_append]; rfl
theorem fold_bd (l : List UInt8) (a : Int) (h : l.all isD = true) (ha : 0 ≤ a) : 0 ≤ l.foldl (fun n c => n * 10 + ((c.toNat : Int) - 48)) a ∧ l.foldl (fun n c => n * 10 + ((c.toNat : Int) - 48)) a < (a + 1) * 10 ^ l.length := by
  induction l generalizing a with
  | nil => simp; omega
  | cons c l ih =>
    simp only [List.all_cons, Bool.and_eq_true] at h
    obtain ⟨h1, h2⟩ := h
    have hc : 48 ≤ (c.toNat : Int) ∧ (c.toNat : Int) ≤ 57 := by simpa [isD] using h1
    obtain ⟨q1, q2⟩ := ih (a * 10 + ((c.toNat : Int) - 48)) h2 (by omega)
    refine ⟨q1, Int.lt_of_lt_of_le q2 ?_⟩
    rw [List.length_cons, Int.pow_succ, Int.mul_comm (10 ^ l.length) 10, ← Int.mul_assoc]
    exact Int.mul_le_mul_of_nonneg_right (by omega) (Int.pow_nonneg (by decide))
theorem valD_bd (l : List UInt8) (h : l.all isD = true) : 0 ≤ valD l ∧ valD l < 10 ^ l.length := by
  have := fold_bd l 0 h (by decide)
  simpa [valD] using this
theorem take_snoc (s : ByteArray) (k : Nat) (h : k < s.size) : s.data.toList.take (k + 1) = s.data.toList.take k ++ [s[k]] := by
  rw [List.take_succ_eq_append_getElem (by simpa using h)]; rfl
theorem all_take (s : ByteArray) (k : Nat) (h : k < s.size) (hn : isD s[k] = false) : s.data.toList.all isD = false := by
  rw [List.all_eq_false]
  exact ⟨s[k], by rw [show s[k] = s.data.toList[k]'(by simpa using h) from rfl]; exact List.getElem_mem _, by simp [hn]⟩
theorem number_any (s : ByteArray) (hs : s.size ≤ 8) (w : World) : Calls Tryd.prog 32 #[.string s] w fun e w' => e = .returned (.int .i64 (numD s.data.toList)) ∧ w' = w := by
  go_enter Tryd.func32, Tryd.ntmps32
  go_wp2
  go_loop [3, 7] (fun n i => ∃ k : Nat, k ≤ s.size ∧ i = .int .i64 (k : Int) ∧ n = .int .i64 (valD (s.data.toList.take k)) ∧ (s.data.toList.take k).all isD = true) (fun _ i => s.size - (intOf i).toNat)
  case atStart => exact ⟨0, Nat.zero_le _, rfl, rfl, rfl⟩
  case round =>
    obtain ⟨k, hk, rfl, rfl, hall⟩ := hrel
    obtain ⟨v0, v1⟩ := valD_bd _ hall
    have hp : (10 : Int) ^ (s.data.toList.take k).length ≤ 10 ^ 8 := by
      have : (s.data.toList.take k).length ≤ 8 := by have := List.length_take_le k s.data.toList; omega
      exact_mod_cast Nat.pow_le_pow_right (by omega) this
    have v2 : valD (s.data.toList.take k) ≤ 100000000 := by omega
    obtain ⟨v, hv⟩ : ∃ v, valD (s.data.toList.take k) = v := ⟨_, rfl⟩
    rw [hv] at v0 v2 ⊢
    have HV := Lib.hid hv
    have HALL := Lib.hid hall
    clear hv hall v1 hp
    by_cases hlt : k < s.size
    · obtain ⟨c, hc⟩ : ∃ c, s[k] = c := ⟨_, rfl⟩
      have HC := Lib.hid hc
      have hc255 : (c.toNat : Int) ≤ 255 := by have := c.toNat_lt; omega
      by_cases c1 : (c.toNat : Int) < 48
      · go_wp2
        go_ret
        exact ⟨ret_i64 (by unfold numD; rw [if_neg]; rw [all_take s k hlt (by rw [HC.out]; unfold isD; simp; omega)]; simp), rfl⟩
      · by_cases c2 : (c.toNat : Int) > 57
        · go_wp2
          go_ret
          exact ⟨ret_i64 (by unfold numD; rw [if_neg]; rw [all_take s k hlt (by rw [HC.out]; unfold isD; simp; omega)]; simp), rfl⟩
        · have HN := Lib.hid (show valD (s.data.toList.take (k + 1)) = v * 10 + ((c.toNat : Int) - 48) by rw [take_snoc s k hlt, valD_snoc, HV.out, HC.out])
          have HA := Lib.hid (show (s.data.toList.take (k + 1)).all isD = true by rw [take_snoc s k hlt, List.all_append, HALL.out, HC.out]; simp [isD]; omega)
          go_wp2
          go_round
          case rel => exact ⟨k + 1, by omega, by go_num, by rw [HN.out], HA.out⟩
          case measure => simp [intOf]; omega
    · go_wp2
      go_ret
      have hks : k = s.size := by omega
      have ht : s.data.toList.take k = s.data.toList := List.take_of_length_le (by simp; omega)
      exact ⟨ret_i64 (by unfold numD; rw [ht] at HALL HV; rw [if_pos HALL.out, HV.out]), rfl⟩
end Go.Proofs.YthknkglhppngoaaDoor.Day
