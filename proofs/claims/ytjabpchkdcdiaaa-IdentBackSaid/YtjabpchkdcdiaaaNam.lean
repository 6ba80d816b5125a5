/- The names: Name of ident and of the document. -/
import Derived.Test.YtjabpchkdcdiaaaShelf
import Derived.Test.YtjabpchkdcdiaaaWords
import Derived.WalkKit
import Derived.Lib.Hide
import Derived.Deep.Light
import Derived.Handy
namespace Go.Proofs.Ytjabpchkdcdiaaa
open Go.RowKit
set_option linter.unusedVariables false
def lowB (c : UInt8) : Bool := decide (97 ≤ (c.toNat : Int)) && decide ((c.toNat : Int) ≤ 122)
def upB (c : UInt8) : Bool := decide (65 ≤ (c.toNat : Int)) && decide ((c.toNat : Int) ≤ 90)
def digB (c : UInt8) : Bool := decide (48 ≤ (c.toNat : Int)) && decide ((c.toNat : Int) ≤ 57)
theorem small_any (c : UInt8) (w : World) : Calls Try.prog 16 #[.int .u8 (c.toNat : Int)] w fun e w' => e = .returned (.bool (lowB c)) ∧ w = w' := by
  have H : Hid (lowB c = (decide (97 ≤ (c.toNat : Int)) && decide ((c.toNat : Int) ≤ 122))) := rfl
  go_enter Try.func16, Try.ntmps16
  go_wp2
  all_goals go_ret
  all_goals refine ⟨ret_bool ?_, rfl⟩
  all_goals go_light
  all_goals rw [H.out]
  all_goals simp
  all_goals omega
theorem digit_any (c : UInt8) (w : World) : Calls Try.prog 17 #[.int .u8 (c.toNat : Int)] w fun e w' => e = .returned (.bool (digB c)) ∧ w = w' := by
  have H : Hid (digB c = (decide (48 ≤ (c.toNat : Int)) && decide ((c.toNat : Int) ≤ 57))) := rfl
  go_enter Try.func17, Try.ntmps17
  go_wp2
  all_goals go_ret
  all_goals refine ⟨ret_bool ?_, rfl⟩
  all_goals go_light
  all_goals rw [H.out]
  all_goals simp
  all_goals omega
theorem rlow_any (c : UInt8) (w : World) : Calls Try.prog 18 #[.int .u8 (c.toNat : Int)] w fun e w' => e = .returned (.bool (lowB c)) ∧ w = w' := by
  have H : Hid (lowB c = (decide (97 ≤ (c.toNat : Int)) && decide ((c.toNat : Int) ≤ 122))) := rfl
  go_enter Try.func18, Try.ntmps18
  go_wp2
  all_goals go_ret
  all_goals refine ⟨ret_bool ?_, rfl⟩
  all_goals go_light
  all_goals rw [H.out]
  all_goals simp
  all_goals omega
theorem rdigit_any (c : UInt8) (w : World) : Calls Try.prog 19 #[.int .u8 (c.toNat : Int)] w fun e w' => e = .returned (.bool (digB c)) ∧ w = w' := by
  have H : Hid (digB c = (decide (48 ≤ (c.toNat : Int)) && decide ((c.toNat : Int) ≤ 57))) := rfl
  go_enter Try.func19, Try.ntmps19
  go_wp2
  all_goals go_ret
  all_goals refine ⟨ret_bool ?_, rfl⟩
  all_goals go_light
  all_goals rw [H.out]
  all_goals simp
  all_goals omega
theorem great_any (c : UInt8) (w : World) : Calls Try.prog 20 #[.int .u8 (c.toNat : Int)] w fun e w' => e = .returned (.bool (upB c)) ∧ w = w' := by
  have H : Hid (upB c = (decide (65 ≤ (c.toNat : Int)) && decide ((c.toNat : Int) ≤ 90))) := rfl
  go_enter Try.func20, Try.ntmps20
  go_wp2
  all_goals go_ret
  all_goals refine ⟨ret_bool ?_, rfl⟩
  all_goals go_light
  all_goals rw [H.out]
  all_goals simp
  all_goals omega
theorem rup_any (c : UInt8) (w : World) : Calls Try.prog 22 #[.int .u8 (c.toNat : Int)] w fun e w' => e = .returned (.bool (upB c)) ∧ w = w' := by
  have H : Hid (upB c = (decide (65 ≤ (c.toNat : Int)) && decide ((c.toNat : Int) ≤ 90))) := rfl
  go_enter Try.func22, Try.ntmps22
  go_wp2
  all_goals go_ret
  all_goals refine ⟨ret_bool ?_, rfl⟩
  all_goals go_light
  all_goals rw [H.out]
  all_goals simp
  all_goals omega

def nmB (c : UInt8) : Bool := lowB c || digB c || (c.toNat : Int) == 45
def nameB (l : List UInt8) : Bool := decide (1 ≤ l.length) && decide (l.length ≤ 16) && lowB (l.getD 0 0) && !((l.getD (l.length - 1) 0).toNat == (45 : Int)) && l.all nmB
theorem all_snoc (s : ByteArray) (k : Nat) (h : k < s.size) (p : UInt8 → Bool) : (s.data.toList.take (k + 1)).all p = ((s.data.toList.take k).all p && p s[k]) := by
  rw [List.take_succ_eq_append_getElem (by simpa using h)]
  simp
  rfl
theorem all_bad (s : ByteArray) (k : Nat) (h : k < s.size) (p : UInt8 → Bool) (hp : p s[k] = false) : s.data.toList.all p = false := by
  rw [List.all_eq_false]
  refine ⟨s[k], ?_, by simp [hp]⟩
  show s.data[k] ∈ _
  simp
theorem all_good (s : ByteArray) (k : Nat) (h : ¬ k < s.size) (p : UInt8 → Bool) (hp : (s.data.toList.take k).all p = true) : s.data.toList.all p = true := by
  rwa [List.take_of_length_le (by simpa using h)] at hp

set_option maxHeartbeats 400000 in
theorem name_any (s : ByteArray) (w : World) (hs : s.size ≤ maxLen) : Calls Try.prog 9 #[.string s] w fun e w' => e = .returned (.bool (nameB s.data.toList)) ∧ w = w' := by
  unfold maxLen at hs
  by_cases h1 : s.size < 1
  · have H : Hid (nameB s.data.toList = false) := by show _ = _; simp [nameB]; omega
    go_enter Try.func9, Try.ntmps9
    go_wp2
    go_ret
    exact ⟨ret_bool H.out.symm, rfl⟩
  by_cases h2 : 16 < s.size
  · have H : Hid (nameB s.data.toList = false) := by show _ = _; simp [nameB]; omega
    go_enter Try.func9, Try.ntmps9
    go_wp2
    go_ret
    exact ⟨ret_bool H.out.symm, rfl⟩
  have h0 : 0 < s.size := by omega
  have e0 : s.data.toList.getD 0 0 = s[0] := by simp [List.getD, h0]; rfl
  have E0 := Lib.hid e0
  clear e0
  cases h3 : lowB s[0]
  · have H : Hid (nameB s.data.toList = false) := by
      show _ = _
      simp only [nameB, E0.out, h3]; simp
    go_enter Try.func9, Try.ntmps9
    go_wp2_with (go_at_call 16; refine (small_any _ _).mono ?_; rintro e w' ⟨rfl, rfl⟩)
    go_ret
    exact ⟨ret_bool H.out.symm, rfl⟩
  have hl : s.size - 1 < s.size := by omega
  have e2 : s.data.toList.getD (s.data.toList.length - 1) 0 = s[s.size - 1] := by simp [List.getD, hl]; rfl
  have E2 := Lib.hid e2
  clear e2
  have hl2 : (0 : Int) ≤ (s.size : Int) - 1 := by omega
  cases h4 : ((s[s.size - 1].toNat : Int) == 45)
  · have HN : Hid (nameB s.data.toList = s.data.toList.all nmB) := by
      show _ = _
      simp only [nameB, E0.out, h3, E2.out, h4]; simp; omega
    go_enter Try.func9, Try.ntmps9
    go_wp2_with (go_at_call 16; refine (small_any _ _).mono ?_; rintro e w' ⟨rfl, rfl⟩)
    go_loop [29] (fun i => ∃ k : Nat, k ≤ s.size ∧ i = .int .i64 k ∧ Hid ((s.data.toList.take k).all nmB = true)) (fun i => s.size - (intOf i).toNat)
    case atStart => exact ⟨0, Nat.zero_le _, rfl, by show _ = _; simp⟩
    case round =>
      obtain ⟨k, hk, rfl, hall⟩ := hrel
      by_cases hlt : k < s.size
      · have HS := Lib.hid (all_snoc s k hlt nmB)
        have HB := Lib.hid (fun h : nmB s[k] = false => HN.out.trans (all_bad s k hlt nmB h))
        have HM : Hid (nmB s[k] = (lowB s[k] || digB s[k] || (s[k].toNat : Int) == 45)) := rfl
        cases e1 : lowB s[k] <;> cases e2 : digB s[k] <;> cases e3 : ((s[k].toNat : Int) == 45)
        all_goals
          have e4 : ((s[k].toNat : Int) != 45) = !((s[k].toNat : Int) == 45) := rfl
          rw [e3] at e4
          have HV := Lib.hid (HM.out.trans (by rw [e1, e2, e3]))
          go_wp2_with (first | (go_at_call 16; refine (small_any _ _).mono ?_; rintro e w' ⟨rfl, rfl⟩) | (go_at_call 17; refine (digit_any _ _).mono ?_; rintro e w' ⟨rfl, rfl⟩))
          first
          | exact ⟨⟨k + 1, by omega, by go_num, by show _ = _; rw [HS.out, hall.out, HV.out]; rfl⟩, by simp [intOf]; omega⟩
          | (go_ret; exact ⟨ret_bool (HB.out HV.out).symm, rfl⟩)
      · have HG := Lib.hid (HN.out.trans (all_good s k hlt nmB hall.out))
        go_wp2
        go_ret
        exact ⟨ret_bool HG.out.symm, rfl⟩
  · have H : Hid (nameB s.data.toList = false) := by
      show _ = _
      simp only [nameB, E0.out, h3, E2.out, h4]; simp
    go_enter Try.func9, Try.ntmps9
    go_wp2_with (go_at_call 16; refine (small_any _ _).mono ?_; rintro e w' ⟨rfl, rfl⟩)
    go_ret
    exact ⟨ret_bool H.out.symm, rfl⟩

set_option maxHeartbeats 400000 in
theorem rname_any (s : ByteArray) (w : World) (hs : s.size ≤ maxLen) : Calls Try.prog 10 #[.string s] w fun e w' => e = .returned (.bool (nameB s.data.toList)) ∧ w = w' := by
  unfold maxLen at hs
  by_cases h1 : s.size < 1
  · have H : Hid (nameB s.data.toList = false) := by show _ = _; simp [nameB]; omega
    go_enter Try.func10, Try.ntmps10
    go_wp2
    go_ret
    exact ⟨ret_bool H.out.symm, rfl⟩
  by_cases h2 : 16 < s.size
  · have H : Hid (nameB s.data.toList = false) := by show _ = _; simp [nameB]; omega
    go_enter Try.func10, Try.ntmps10
    go_wp2
    go_ret
    exact ⟨ret_bool H.out.symm, rfl⟩
  have h0 : 0 < s.size := by omega
  have e0 : s.data.toList.getD 0 0 = s[0] := by simp [List.getD, h0]; rfl
  have E0 := Lib.hid e0
  clear e0
  cases h3 : lowB s[0]
  · have H : Hid (nameB s.data.toList = false) := by
      show _ = _
      simp only [nameB, E0.out, h3]; simp
    go_enter Try.func10, Try.ntmps10
    go_wp2_with (go_at_call 18; refine (rlow_any _ _).mono ?_; rintro e w' ⟨rfl, rfl⟩)
    go_ret
    exact ⟨ret_bool H.out.symm, rfl⟩
  have hl : s.size - 1 < s.size := by omega
  have e2 : s.data.toList.getD (s.data.toList.length - 1) 0 = s[s.size - 1] := by simp [List.getD, hl]; rfl
  have E2 := Lib.hid e2
  clear e2
  have hl2 : (0 : Int) ≤ (s.size : Int) - 1 := by omega
  cases h4 : ((s[s.size - 1].toNat : Int) == 45)
  · have HN : Hid (nameB s.data.toList = s.data.toList.all nmB) := by
      show _ = _
      simp only [nameB, E0.out, h3, E2.out, h4]; simp; omega
    go_enter Try.func10, Try.ntmps10
    go_wp2_with (go_at_call 18; refine (rlow_any _ _).mono ?_; rintro e w' ⟨rfl, rfl⟩)
    go_loop [3] (fun i => ∃ k : Nat, k ≤ s.size ∧ i = .int .i64 k ∧ Hid ((s.data.toList.take k).all nmB = true)) (fun i => s.size - (intOf i).toNat)
    case atStart => exact ⟨0, Nat.zero_le _, rfl, by show _ = _; simp⟩
    case round =>
      obtain ⟨k, hk, rfl, hall⟩ := hrel
      by_cases hlt : k < s.size
      · have HS := Lib.hid (all_snoc s k hlt nmB)
        have HB := Lib.hid (fun h : nmB s[k] = false => HN.out.trans (all_bad s k hlt nmB h))
        have HM : Hid (nmB s[k] = (lowB s[k] || digB s[k] || (s[k].toNat : Int) == 45)) := rfl
        cases e1 : lowB s[k] <;> cases e2 : digB s[k] <;> cases e3 : ((s[k].toNat : Int) == 45)
        all_goals
          have e4 : ((s[k].toNat : Int) != 45) = !((s[k].toNat : Int) == 45) := rfl
          rw [e3] at e4
          have HV := Lib.hid (HM.out.trans (by rw [e1, e2, e3]))
          go_wp2_with (first | (go_at_call 18; refine (rlow_any _ _).mono ?_; rintro e w' ⟨rfl, rfl⟩) | (go_at_call 19; refine (rdigit_any _ _).mono ?_; rintro e w' ⟨rfl, rfl⟩))
          first
          | exact ⟨⟨k + 1, by omega, by go_num, by show _ = _; rw [HS.out, hall.out, HV.out]; rfl⟩, by simp [intOf]; omega⟩
          | (go_ret; exact ⟨ret_bool (HB.out HV.out).symm, rfl⟩)
      · have HG := Lib.hid (HN.out.trans (all_good s k hlt nmB hall.out))
        go_wp2
        go_ret
        exact ⟨ret_bool HG.out.symm, rfl⟩
  · have H : Hid (nameB s.data.toList = false) := by
      show _ = _
      simp only [nameB, E0.out, h3, E2.out, h4]; simp
    go_enter Try.func10, Try.ntmps10
    go_wp2_with (go_at_call 18; refine (rlow_any _ _).mono ?_; rintro e w' ⟨rfl, rfl⟩)
    go_ret
    exact ⟨ret_bool H.out.symm, rfl⟩

end Go.Proofs.Ytjabpchkdcdiaaa
