/- UID of ident and of the document. -/
import Derived.Test.YtjabpchkdcdiaaaNam
namespace Go.Proofs.Ytjabpchkdcdiaaa
open Go.RowKit
set_option linter.unusedVariables false
def spB (c : UInt8) : Bool := (c.toNat : Int) == 45 || (c.toNat : Int) == 46 || (c.toNat : Int) == 95 || (c.toNat : Int) == 64
def uiB (c : UInt8) : Bool := lowB c || upB c || digB c || spB c
def uidB (l : List UInt8) : Bool := decide (1 ≤ l.length) && decide (l.length ≤ 24) && l.all uiB
def ixB (c : UInt8) : Int := Lib.indexByte [45, 46, 95, 64] c
theorem eqb (a c : UInt8) : (a == c) = ((c.toNat : Int) == (a.toNat : Int)) := by
  rw [Bool.eq_iff_iff]
  simp only [beq_iff_eq, Int.natCast_inj]
  constructor
  · rintro rfl; rfl
  · intro h; exact (UInt8.toNat_inj.1 h).symm
theorem ixB_eq (c : UInt8) : decide (ixB c < 0) = !spB c := by
  have h1 := eqb 45 c
  have h2 := eqb 46 c
  have h3 := eqb 95 c
  have h4 := eqb 64 c
  simp only [show ((45 : UInt8).toNat : Int) = 45 from rfl, show ((46 : UInt8).toNat : Int) = 46 from rfl, show ((95 : UInt8).toNat : Int) = 95 from rfl, show ((64 : UInt8).toNat : Int) = 64 from rfl] at h1 h2 h3 h4
  simp only [ixB, spB, Lib.indexByte, h1, h2, h3, h4]
  cases (c.toNat : Int) == 45 <;> cases (c.toNat : Int) == 46 <;> cases (c.toNat : Int) == 95 <;> cases (c.toNat : Int) == 64 <;> simp
theorem idx_any (c : UInt8) (w : World) : Calls Try.prog 21 #[.string { data := #[45, 46, 95, 64] }, .int .u8 (c.toNat : Int)] w fun e w' => e = .returned (.int .i64 (ixB c)) ∧ w = w' :=
  (Try.strings_IndexByte ⟨#[45, 46, 95, 64]⟩ (c.toNat : Int) w).mono fun e w' ⟨h1, h2⟩ => ⟨h1.trans (ret_i64 (by simp [ixB])), h2.symm⟩
set_option maxHeartbeats 400000 in
theorem uid_any (s : ByteArray) (w : World) (hs : s.size ≤ maxLen) : Calls Try.prog 11 #[.string s] w fun e w' => e = .returned (.bool (uidB s.data.toList)) ∧ w = w' := by
  unfold maxLen at hs
  by_cases h1 : s.size < 1
  · have H : Hid (uidB s.data.toList = false) := by show _ = _; simp [uidB]; omega
    go_enter Try.func11, Try.ntmps11
    go_wp2
    go_ret
    exact ⟨ret_bool H.out.symm, rfl⟩
  by_cases h2 : 24 < s.size
  · have H : Hid (uidB s.data.toList = false) := by show _ = _; simp [uidB]; omega
    go_enter Try.func11, Try.ntmps11
    go_wp2
    go_ret
    exact ⟨ret_bool H.out.symm, rfl⟩
  have HN : Hid (uidB s.data.toList = s.data.toList.all uiB) := by
    show _ = _
    simp only [uidB]; simp; omega
  go_enter Try.func11, Try.ntmps11
  go_wp2
  go_loop [15] (fun i => ∃ k : Nat, k ≤ s.size ∧ i = .int .i64 k ∧ Hid ((s.data.toList.take k).all uiB = true)) (fun i => s.size - (intOf i).toNat)
  case atStart => exact ⟨0, Nat.zero_le _, rfl, by show _ = _; simp⟩
  case round =>
    obtain ⟨k, hk, rfl, hall⟩ := hrel
    by_cases hlt : k < s.size
    · have HS := Lib.hid (all_snoc s k hlt uiB)
      have HB := Lib.hid (fun h : uiB s[k] = false => HN.out.trans (all_bad s k hlt uiB h))
      have HM : Hid (uiB s[k] = (lowB s[k] || upB s[k] || digB s[k] || spB s[k])) := rfl
      cases e0 : lowB s[k]
      rotate_left
      · skip
        have HV := Lib.hid (HM.out.trans (by rw [e0]))
        go_wp2_with (first | (go_at_call 16; refine (small_any _ _).mono ?_; rintro e w' ⟨rfl, rfl⟩) | (go_at_call 20; refine (great_any _ _).mono ?_; rintro e w' ⟨rfl, rfl⟩) | (go_at_call 17; refine (digit_any _ _).mono ?_; rintro e w' ⟨rfl, rfl⟩) | (go_at_call 21; refine (idx_any _ _).mono ?_; rintro e w' ⟨rfl, rfl⟩))
        exact ⟨⟨k + 1, by omega, by go_num, by show _ = _; rw [HS.out, hall.out, HV.out]; rfl⟩, by simp [intOf]; omega⟩
      cases e1 : upB s[k]
      rotate_left
      · skip
        have HV := Lib.hid (HM.out.trans (by rw [e0, e1]))
        go_wp2_with (first | (go_at_call 16; refine (small_any _ _).mono ?_; rintro e w' ⟨rfl, rfl⟩) | (go_at_call 20; refine (great_any _ _).mono ?_; rintro e w' ⟨rfl, rfl⟩) | (go_at_call 17; refine (digit_any _ _).mono ?_; rintro e w' ⟨rfl, rfl⟩) | (go_at_call 21; refine (idx_any _ _).mono ?_; rintro e w' ⟨rfl, rfl⟩))
        exact ⟨⟨k + 1, by omega, by go_num, by show _ = _; rw [HS.out, hall.out, HV.out]; rfl⟩, by simp [intOf]; omega⟩
      cases e2 : digB s[k]
      rotate_left
      · skip
        have HV := Lib.hid (HM.out.trans (by rw [e0, e1, e2]))
        go_wp2_with (first | (go_at_call 16; refine (small_any _ _).mono ?_; rintro e w' ⟨rfl, rfl⟩) | (go_at_call 20; refine (great_any _ _).mono ?_; rintro e w' ⟨rfl, rfl⟩) | (go_at_call 17; refine (digit_any _ _).mono ?_; rintro e w' ⟨rfl, rfl⟩) | (go_at_call 21; refine (idx_any _ _).mono ?_; rintro e w' ⟨rfl, rfl⟩))
        exact ⟨⟨k + 1, by omega, by go_num, by show _ = _; rw [HS.out, hall.out, HV.out]; rfl⟩, by simp [intOf]; omega⟩
      cases e3 : spB s[k]
      rotate_left
      · have e9 := ixB_eq s[k]
        rw [e3] at e9
        have HV := Lib.hid (HM.out.trans (by rw [e0, e1, e2, e3]))
        go_wp2_with (first | (go_at_call 16; refine (small_any _ _).mono ?_; rintro e w' ⟨rfl, rfl⟩) | (go_at_call 20; refine (great_any _ _).mono ?_; rintro e w' ⟨rfl, rfl⟩) | (go_at_call 17; refine (digit_any _ _).mono ?_; rintro e w' ⟨rfl, rfl⟩) | (go_at_call 21; refine (idx_any _ _).mono ?_; rintro e w' ⟨rfl, rfl⟩))
        exact ⟨⟨k + 1, by omega, by go_num, by show _ = _; rw [HS.out, hall.out, HV.out]; rfl⟩, by simp [intOf]; omega⟩
      have e9 := ixB_eq s[k]
      rw [e3] at e9
      have HV := Lib.hid (HM.out.trans (by rw [e0, e1, e2, e3]))
      go_wp2_with (first | (go_at_call 16; refine (small_any _ _).mono ?_; rintro e w' ⟨rfl, rfl⟩) | (go_at_call 20; refine (great_any _ _).mono ?_; rintro e w' ⟨rfl, rfl⟩) | (go_at_call 17; refine (digit_any _ _).mono ?_; rintro e w' ⟨rfl, rfl⟩) | (go_at_call 21; refine (idx_any _ _).mono ?_; rintro e w' ⟨rfl, rfl⟩))
      go_ret
      exact ⟨ret_bool (HB.out HV.out).symm, rfl⟩
    · have HG := Lib.hid (HN.out.trans (all_good s k hlt uiB hall.out))
      go_wp2
      go_ret
      exact ⟨ret_bool HG.out.symm, rfl⟩
set_option maxHeartbeats 400000 in
theorem ruid_any (s : ByteArray) (w : World) (hs : s.size ≤ maxLen) : Calls Try.prog 12 #[.string s] w fun e w' => e = .returned (.bool (uidB s.data.toList)) ∧ w = w' := by
  unfold maxLen at hs
  by_cases h1 : s.size < 1
  · have H : Hid (uidB s.data.toList = false) := by show _ = _; simp [uidB]; omega
    go_enter Try.func12, Try.ntmps12
    go_wp2
    go_ret
    exact ⟨ret_bool H.out.symm, rfl⟩
  by_cases h2 : 24 < s.size
  · have H : Hid (uidB s.data.toList = false) := by show _ = _; simp [uidB]; omega
    go_enter Try.func12, Try.ntmps12
    go_wp2
    go_ret
    exact ⟨ret_bool H.out.symm, rfl⟩
  have HN : Hid (uidB s.data.toList = s.data.toList.all uiB) := by
    show _ = _
    simp only [uidB]; simp; omega
  go_enter Try.func12, Try.ntmps12
  go_wp2
  go_loop [3] (fun i => ∃ k : Nat, k ≤ s.size ∧ i = .int .i64 k ∧ Hid ((s.data.toList.take k).all uiB = true)) (fun i => s.size - (intOf i).toNat)
  case atStart => exact ⟨0, Nat.zero_le _, rfl, by show _ = _; simp⟩
  case round =>
    obtain ⟨k, hk, rfl, hall⟩ := hrel
    by_cases hlt : k < s.size
    · have HS := Lib.hid (all_snoc s k hlt uiB)
      have HB := Lib.hid (fun h : uiB s[k] = false => HN.out.trans (all_bad s k hlt uiB h))
      have HM : Hid (uiB s[k] = (lowB s[k] || upB s[k] || digB s[k] || ((s[k].toNat : Int) == 45 || (s[k].toNat : Int) == 46 || (s[k].toNat : Int) == 95 || (s[k].toNat : Int) == 64))) := rfl
      cases e0 : lowB s[k]
      rotate_left
      · skip
        have HV := Lib.hid (HM.out.trans (by rw [e0]))
        go_wp2_with (first | (go_at_call 18; refine (rlow_any _ _).mono ?_; rintro e w' ⟨rfl, rfl⟩) | (go_at_call 22; refine (rup_any _ _).mono ?_; rintro e w' ⟨rfl, rfl⟩) | (go_at_call 19; refine (rdigit_any _ _).mono ?_; rintro e w' ⟨rfl, rfl⟩) | (go_at_call 21; refine (idx_any _ _).mono ?_; rintro e w' ⟨rfl, rfl⟩))
        exact ⟨⟨k + 1, by omega, by go_num, by show _ = _; rw [HS.out, hall.out, HV.out]; rfl⟩, by simp [intOf]; omega⟩
      cases e1 : upB s[k]
      rotate_left
      · skip
        have HV := Lib.hid (HM.out.trans (by rw [e0, e1]))
        go_wp2_with (first | (go_at_call 18; refine (rlow_any _ _).mono ?_; rintro e w' ⟨rfl, rfl⟩) | (go_at_call 22; refine (rup_any _ _).mono ?_; rintro e w' ⟨rfl, rfl⟩) | (go_at_call 19; refine (rdigit_any _ _).mono ?_; rintro e w' ⟨rfl, rfl⟩) | (go_at_call 21; refine (idx_any _ _).mono ?_; rintro e w' ⟨rfl, rfl⟩))
        exact ⟨⟨k + 1, by omega, by go_num, by show _ = _; rw [HS.out, hall.out, HV.out]; rfl⟩, by simp [intOf]; omega⟩
      cases e2 : digB s[k]
      rotate_left
      · skip
        have HV := Lib.hid (HM.out.trans (by rw [e0, e1, e2]))
        go_wp2_with (first | (go_at_call 18; refine (rlow_any _ _).mono ?_; rintro e w' ⟨rfl, rfl⟩) | (go_at_call 22; refine (rup_any _ _).mono ?_; rintro e w' ⟨rfl, rfl⟩) | (go_at_call 19; refine (rdigit_any _ _).mono ?_; rintro e w' ⟨rfl, rfl⟩) | (go_at_call 21; refine (idx_any _ _).mono ?_; rintro e w' ⟨rfl, rfl⟩))
        exact ⟨⟨k + 1, by omega, by go_num, by show _ = _; rw [HS.out, hall.out, HV.out]; rfl⟩, by simp [intOf]; omega⟩
      cases e3 : ((s[k].toNat : Int) == 45)
      rotate_left
      · have f3 : ((s[k].toNat : Int) != 45) = !((s[k].toNat : Int) == 45) := rfl
        rw [e3] at f3
        have HV := Lib.hid (HM.out.trans (by rw [e0, e1, e2, e3]))
        go_wp2_with (first | (go_at_call 18; refine (rlow_any _ _).mono ?_; rintro e w' ⟨rfl, rfl⟩) | (go_at_call 22; refine (rup_any _ _).mono ?_; rintro e w' ⟨rfl, rfl⟩) | (go_at_call 19; refine (rdigit_any _ _).mono ?_; rintro e w' ⟨rfl, rfl⟩) | (go_at_call 21; refine (idx_any _ _).mono ?_; rintro e w' ⟨rfl, rfl⟩))
        exact ⟨⟨k + 1, by omega, by go_num, by show _ = _; rw [HS.out, hall.out, HV.out]; rfl⟩, by simp [intOf]; omega⟩
      have f3 : ((s[k].toNat : Int) != 45) = !((s[k].toNat : Int) == 45) := rfl
      rw [e3] at f3
      cases e4 : ((s[k].toNat : Int) == 46)
      rotate_left
      · have f4 : ((s[k].toNat : Int) != 46) = !((s[k].toNat : Int) == 46) := rfl
        rw [e4] at f4
        have HV := Lib.hid (HM.out.trans (by rw [e0, e1, e2, e3, e4]))
        go_wp2_with (first | (go_at_call 18; refine (rlow_any _ _).mono ?_; rintro e w' ⟨rfl, rfl⟩) | (go_at_call 22; refine (rup_any _ _).mono ?_; rintro e w' ⟨rfl, rfl⟩) | (go_at_call 19; refine (rdigit_any _ _).mono ?_; rintro e w' ⟨rfl, rfl⟩) | (go_at_call 21; refine (idx_any _ _).mono ?_; rintro e w' ⟨rfl, rfl⟩))
        exact ⟨⟨k + 1, by omega, by go_num, by show _ = _; rw [HS.out, hall.out, HV.out]; rfl⟩, by simp [intOf]; omega⟩
      have f4 : ((s[k].toNat : Int) != 46) = !((s[k].toNat : Int) == 46) := rfl
      rw [e4] at f4
      cases e5 : ((s[k].toNat : Int) == 95)
      rotate_left
      · have f5 : ((s[k].toNat : Int) != 95) = !((s[k].toNat : Int) == 95) := rfl
        rw [e5] at f5
        have HV := Lib.hid (HM.out.trans (by rw [e0, e1, e2, e3, e4, e5]))
        go_wp2_with (first | (go_at_call 18; refine (rlow_any _ _).mono ?_; rintro e w' ⟨rfl, rfl⟩) | (go_at_call 22; refine (rup_any _ _).mono ?_; rintro e w' ⟨rfl, rfl⟩) | (go_at_call 19; refine (rdigit_any _ _).mono ?_; rintro e w' ⟨rfl, rfl⟩) | (go_at_call 21; refine (idx_any _ _).mono ?_; rintro e w' ⟨rfl, rfl⟩))
        exact ⟨⟨k + 1, by omega, by go_num, by show _ = _; rw [HS.out, hall.out, HV.out]; rfl⟩, by simp [intOf]; omega⟩
      have f5 : ((s[k].toNat : Int) != 95) = !((s[k].toNat : Int) == 95) := rfl
      rw [e5] at f5
      cases e6 : ((s[k].toNat : Int) == 64)
      rotate_left
      · have f6 : ((s[k].toNat : Int) != 64) = !((s[k].toNat : Int) == 64) := rfl
        rw [e6] at f6
        have HV := Lib.hid (HM.out.trans (by rw [e0, e1, e2, e3, e4, e5, e6]))
        go_wp2_with (first | (go_at_call 18; refine (rlow_any _ _).mono ?_; rintro e w' ⟨rfl, rfl⟩) | (go_at_call 22; refine (rup_any _ _).mono ?_; rintro e w' ⟨rfl, rfl⟩) | (go_at_call 19; refine (rdigit_any _ _).mono ?_; rintro e w' ⟨rfl, rfl⟩) | (go_at_call 21; refine (idx_any _ _).mono ?_; rintro e w' ⟨rfl, rfl⟩))
        exact ⟨⟨k + 1, by omega, by go_num, by show _ = _; rw [HS.out, hall.out, HV.out]; rfl⟩, by simp [intOf]; omega⟩
      have f6 : ((s[k].toNat : Int) != 64) = !((s[k].toNat : Int) == 64) := rfl
      rw [e6] at f6
      have HV := Lib.hid (HM.out.trans (by rw [e0, e1, e2, e3, e4, e5, e6]))
      go_wp2_with (first | (go_at_call 18; refine (rlow_any _ _).mono ?_; rintro e w' ⟨rfl, rfl⟩) | (go_at_call 22; refine (rup_any _ _).mono ?_; rintro e w' ⟨rfl, rfl⟩) | (go_at_call 19; refine (rdigit_any _ _).mono ?_; rintro e w' ⟨rfl, rfl⟩) | (go_at_call 21; refine (idx_any _ _).mono ?_; rintro e w' ⟨rfl, rfl⟩))
      go_ret
      exact ⟨ret_bool (HB.out HV.out).symm, rfl⟩
    · have HG := Lib.hid (HN.out.trans (all_good s k hlt uiB hall.out))
      go_wp2
      go_ret
      exact ⟨ret_bool HG.out.symm, rfl⟩
end Go.Proofs.Ytjabpchkdcdiaaa
