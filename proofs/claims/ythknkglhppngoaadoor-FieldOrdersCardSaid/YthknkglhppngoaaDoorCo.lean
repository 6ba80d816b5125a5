/- A text without a control. -/
import Derived.Test.YthknkglhppngoaaDoorFo
namespace Go.Proofs.YthknkglhppngoaaDoor
open Go.RowKit
set_option linter.unusedVariables false
set_option maxRecDepth 20000
def ctl (c : UInt8) : Bool := decide ((c.toNat : Int) < 32) || (c.toNat : Int) == 127
set_option maxHeartbeats 4000000 in
theorem controls_any (s : ByteArray) (hs : s.size ≤ 1000000) (w : World) : Calls Tryd.prog 29 #[.string s] w fun e w' => e = .returned (.bool (s.data.toList.any ctl)) ∧ w' = w := by
  obtain ⟨r, hr⟩ : ∃ r, s.data.toList.any ctl = r := ⟨_, rfl⟩
  have HR := Lib.hid hr
  rw [hr]
  clear hr
  go_enter Tryd.func29, Tryd.ntmps29
  go_wp2
  go_loopw [6] (fun i wr => ∃ k : Nat, k ≤ s.size ∧ i = .int .i64 (k : Int) ∧ wr = w ∧ (s.data.toList.take k).any ctl = false) (fun i _ => s.size - (intOf i).toNat)
  case atStart => exact ⟨0, Nat.zero_le _, rfl, rfl, by simp⟩
  case round =>
    obtain ⟨k, hk, rfl, rfl, hno⟩ := hrel
    have HN := Lib.hid hno
    clear hno
    by_cases hlt : k < s.size
    · have hkl : k < s.data.toList.length := by simpa using hlt
      obtain ⟨c, hc⟩ : ∃ c, s[k] = c := ⟨_, rfl⟩
      have hc8 : (c.toNat : Int) ≤ 255 := by have := c.toNat_lt; omega
      have HC := Lib.hid (show s.data.toList[k] = c from by rw [← hc]; rfl)
      have HM := Lib.hid (show c ∈ s.data.toList from by rw [← HC.out]; exact List.getElem_mem _)
      have HT := Lib.hid (show (s.data.toList.take (k + 1)).any ctl = ((s.data.toList.take k).any ctl || ctl c) from by
        rw [List.take_succ_eq_append_getElem hkl, List.any_append, HC.out]; simp)
      by_cases u1 : (c.toNat : Int) < 32
      · have e := Lib.hid (show r = true by
          rw [← HR.out, List.any_eq_true]; exact ⟨c, HM.out, by unfold ctl; simp only [u1, decide_true, Bool.true_or]⟩)
        go_wp2
        go_ret
        exact ⟨by rw [e.out]; rfl, rfl⟩
      · have u1' : decide ((c.toNat : Int) < 32) = false := by simpa using u1
        by_cases u2 : (c.toNat : Int) = 127
        · have u2' : ((c.toNat : Int) == 127) = true := by rw [u2]; rfl
          have e := Lib.hid (show r = true by
            rw [← HR.out, List.any_eq_true]; exact ⟨c, HM.out, by unfold ctl; simp only [u2', Bool.or_true]⟩)
          clear u2
          go_wp2
          go_ret
          exact ⟨by rw [e.out]; rfl, rfl⟩
        · have u2' : ((c.toNat : Int) == 127) = false := by simpa using u2
          have HN2 := Lib.hid (show (s.data.toList.take (k + 1)).any ctl = false by
            rw [HT.out, HN.out]; unfold ctl; rw [u1', u2']; rfl)
          clear u2
          go_wp2
          exact ⟨⟨k + 1, by omega, by go_num, trivial, HN2.out⟩, by simp [intOf]; omega⟩
    · have hks : k = s.size := by omega
      subst hks
      have e := Lib.hid (show r = false by
        rw [← HR.out, ← HN.out, List.take_of_length_le (by simp)])
      go_wp2
      go_ret
      exact ⟨by rw [e.out]; rfl, rfl⟩
end Go.Proofs.YthknkglhppngoaaDoor
