/- card: the order of fields, as a compare. -/
import Derived.Test.YtphijnkiiokieaaGreatDoorZaf
import Derived.Test.YtphijnkiiokieaaGreatDoorZaa
import Derived.Test.YtphijnkiiokieaaGreatDoorZab
import Derived.WalkKit
import Derived.Lib.Hide
import Derived.Deep.Light
import Derived.Handy
import Derived.Test.YtphijnkiiokieaaGreatDoorProg
import Derived.KernelRfl
import Derived.BigQuiet
import Derived.RegionTactic
import Derived.Deep.QuietTactic
import Derived.IntWalk
import Derived.Laws.IdiomStrings
import Derived.Deep.RegionWith
/- UID of ident and of the document. -/
namespace Go.Proofs.YtphijnkiiokieaaGreatDoor.Id
open Go.RowKit
set_option linter.unusedVariables false
def spB (c : UInt8) : Bool := (c.toNat : Int) == 45 || (c.toNat : Int) == 46 || (c.toNat : Int) == 95 || (c.toNat : Int) == 64
def uiB (c : UInt8) : Bool := lowB c || upB c || digB c || spB c
def uidB (l : List UInt8) : Bool := decide (1 ≤ l.length) && decide (l.length ≤ 24) && l.all uiB
def ixB (c : UInt8) : Int := Lib.indexByte [45, 46, 95, 64] c
theorem eqb (a c : UInt8) : (a == c) = ((c.toNat : Int) == (a.toNat : Int)) := by
  rw [Bool.eq_iff_iff]
  simp only [beq_iff_eq, Int.natCast_inj]
  constructor
  · rintro rfl; rfl
  · intro h; exact (UInt8.toNat_inj.1 h).symm
theorem ixB_eq (c : UInt8) : decide (ixB c < 0) = !spB c := by
  have h1 := eqb 45 c
  have h2 := eqb 46 c
  have h3 := eqb 95 c
  have h4 := eqb 64 c
  simp only [show ((45 : UInt8).toNat : Int) = 45 from rfl, show ((46 : UInt8).toNat : Int) = 46 from rfl, show ((95 : UInt8).toNat : Int) = 95 from rfl, show ((64 : UInt8).toNat : Int) = 64 from rfl] at h1 h2 h3 h4
  simp only [ixB, spB, Lib.indexByte, h1, h2, h3, h4]
  cases (c.toNat : Int) == 45 <;> cases (c.toNat : Int) == 46 <;> cases (c.toNat : Int) == 95 <;> cases (c.toNat : Int) == 64 <;> simp
theorem idx_any (c : UInt8) (w : World) : Calls Tryz.prog 77 #[.string { data := #[45, 46, 95, 64] }, .int .u8 (c.toNat : Int)] w fun e w' => e = .returned (.int .i64 (ixB c)) ∧ w = w' :=
  (Tryz.strings_IndexByte ⟨#[45, 46, 95, 64]⟩ (c.toNat : Int) w).mono fun e w' ⟨h1, h2⟩ => ⟨h1.trans (ret_i64 (by simp [ixB])), h2.symm⟩
set_option maxHeartbeats 400000 in
theorem uid_any (s : ByteArray) (w : World) (hs : s.size ≤ maxLen) : Calls Tryz.prog 64 #[.string s] w fun e w' => e = .returned (.bool (uidB s.data.toList)) ∧ w = w' := by
  unfold maxLen at hs
  by_cases h1 : s.size < 1
  · have H : Hid (uidB s.data.toList = false) := by show _ = _; simp [uidB]; omega
    go_enter Tryz.func64, Tryz.ntmps64
    go_wp2
    go_ret
    exact ⟨ret_bool H.out.symm, rfl⟩
  by_cases h2 : 24 < s.size
  · have H : Hid (uidB s.data.toList = false) := by show _ = _; simp [uidB]; omega
    go_enter Tryz.func64, Tryz.ntmps64
    go_wp2
    go_ret
    exact ⟨ret_bool H.out.symm, rfl⟩
  have HN : Hid (uidB s.data.toList = s.data.toList.all uiB) := by
    show _ = _
    simp only [uidB]; simp; omega
  go_enter Tryz.func64, Tryz.ntmps64
  go_wp2
  go_loop [15] (fun i => ∃ k : Nat, k ≤ s.size ∧ i = .int .i64 k ∧ Hid ((s.data.toList.take k).all uiB = true)) (fun i => s.size - (intOf i).toNat)
  case atStart => exact ⟨0, Nat.zero_le _, rfl, by show _ = _; simp⟩
  case round =>
    obtain ⟨k, hk, rfl, hall⟩ := hrel
    by_cases hlt : k < s.size
    · have HS := Lib.hid (all_snoc s k hlt uiB)
      have HB := Lib.hid (fun h : uiB s[k] = false => HN.out.trans (all_bad s k hlt uiB h))
      have HM : Hid (uiB s[k] = (lowB s[k] || upB s[k] || digB s[k] || spB s[k])) := rfl
      cases e0 : lowB s[k]
      rotate_left
      · skip
        have HV := Lib.hid (HM.out.trans (by rw [e0]))
        go_wp2_with (first | (go_at_call 74; refine (small_any _ _).mono ?_; rintro e w' ⟨rfl, rfl⟩) | (go_at_call 76; refine (great_any _ _).mono ?_; rintro e w' ⟨rfl, rfl⟩) | (go_at_call 75; refine (digit_any _ _).mono ?_; rintro e w' ⟨rfl, rfl⟩) | (go_at_call 77; refine (idx_any _ _).mono ?_; rintro e w' ⟨rfl, rfl⟩))
        exact ⟨⟨k + 1, by omega, by go_num, by show _ = _; rw [HS.out, hall.out, HV.out]; rfl⟩, by simp [intOf]; omega⟩
      cases e1 : upB s[k]
      rotate_left
      · skip
        have HV := Lib.hid (HM.out.trans (by rw [e0, e1]))
        go_wp2_with (first | (go_at_call 74; refine (small_any _ _).mono ?_; rintro e w' ⟨rfl, rfl⟩) | (go_at_call 76; refine (great_any _ _).mono ?_; rintro e w' ⟨rfl, rfl⟩) | (go_at_call 75; refine (digit_any _ _).mono ?_; rintro e w' ⟨rfl, rfl⟩) | (go_at_call 77; refine (idx_any _ _).mono ?_; rintro e w' ⟨rfl, rfl⟩))
        exact ⟨⟨k + 1, by omega, by go_num, by show _ = _; rw [HS.out, hall.out, HV.out]; rfl⟩, by simp [intOf]; omega⟩
      cases e2 : digB s[k]
      rotate_left
      · skip
        have HV := Lib.hid (HM.out.trans (by rw [e0, e1, e2]))
        go_wp2_with (first | (go_at_call 74; refine (small_any _ _).mono ?_; rintro e w' ⟨rfl, rfl⟩) | (go_at_call 76; refine (great_any _ _).mono ?_; rintro e w' ⟨rfl, rfl⟩) | (go_at_call 75; refine (digit_any _ _).mono ?_; rintro e w' ⟨rfl, rfl⟩) | (go_at_call 77; refine (idx_any _ _).mono ?_; rintro e w' ⟨rfl, rfl⟩))
        exact ⟨⟨k + 1, by omega, by go_num, by show _ = _; rw [HS.out, hall.out, HV.out]; rfl⟩, by simp [intOf]; omega⟩
      cases e3 : spB s[k]
      rotate_left
      · have e9 := ixB_eq s[k]
        rw [e3] at e9
        have HV := Lib.hid (HM.out.trans (by rw [e0, e1, e2, e3]))
        go_wp2_with (first | (go_at_call 74; refine (small_any _ _).mono ?_; rintro e w' ⟨rfl, rfl⟩) | (go_at_call 76; refine (great_any _ _).mono ?_; rintro e w' ⟨rfl, rfl⟩) | (go_at_call 75; refine (digit_any _ _).mono ?_; rintro e w' ⟨rfl, rfl⟩) | (go_at_call 77; refine (idx_any _ _).mono ?_; rintro e w' ⟨rfl, rfl⟩))
        exact ⟨⟨k + 1, by omega, by go_num, by show _ = _; rw [HS.out, hall.out, HV.out]; rfl⟩, by simp [intOf]; omega⟩
      have e9 := ixB_eq s[k]
      rw [e3] at e9
      have HV := Lib.hid (HM.out.trans (by rw [e0, e1, e2, e3]))
      go_wp2_with (first | (go_at_call 74; refine (small_any _ _).mono ?_; rintro e w' ⟨rfl, rfl⟩) | (go_at_call 76; refine (great_any _ _).mono ?_; rintro e w' ⟨rfl, rfl⟩) | (go_at_call 75; refine (digit_any _ _).mono ?_; rintro e w' ⟨rfl, rfl⟩) | (go_at_call 77; refine (idx_any _ _).mono ?_; rintro e w' ⟨rfl, rfl⟩))
      go_ret
      exact ⟨ret_bool (HB.out HV.out).symm, rfl⟩
    · have HG := Lib.hid (HN.out.trans (all_good s k hlt uiB hall.out))
      go_wp2
      go_ret
      exact ⟨ret_bool HG.out.symm, rfl⟩
set_option maxHeartbeats 400000 in
theorem ruid_any (s : ByteArray) (w : World) (hs : s.size ≤ maxLen) : Calls Tryz.prog 49 #[.string s] w fun e w' => e = .returned (.bool (uidB s.data.toList)) ∧ w = w' := by
  unfold maxLen at hs
  by_cases h1 : s.size < 1
  · have H : Hid (uidB s.data.toList = false) := by show _ = _; simp [uidB]; omega
    go_enter Tryz.func49, Tryz.ntmps49
    go_wp2
    go_ret
    exact ⟨ret_bool H.out.symm, rfl⟩
  by_cases h2 : 24 < s.size
  · have H : Hid (uidB s.data.toList = false) := by show _ = _; simp [uidB]; omega
    go_enter Tryz.func49, Tryz.ntmps49
    go_wp2
    go_ret
    exact ⟨ret_bool H.out.symm, rfl⟩
  have HN : Hid (uidB s.data.toList = s.data.toList.all uiB) := by
    show _ = _
    simp only [uidB]; simp; omega
  go_enter Tryz.func49, Tryz.ntmps49
  go_wp2
  go_loop [3] (fun i => ∃ k : Nat, k ≤ s.size ∧ i = .int .i64 k ∧ Hid ((s.data.toList.take k).all uiB = true)) (fun i => s.size - (intOf i).toNat)
  case atStart => exact ⟨0, Nat.zero_le _, rfl, by show _ = _; simp⟩
  case round =>
    obtain ⟨k, hk, rfl, hall⟩ := hrel
    by_cases hlt : k < s.size
    · have HS := Lib.hid (all_snoc s k hlt uiB)
      have HB := Lib.hid (fun h : uiB s[k] = false => HN.out.trans (all_bad s k hlt uiB h))
      have HM : Hid (uiB s[k] = (lowB s[k] || upB s[k] || digB s[k] || ((s[k].toNat : Int) == 45 || (s[k].toNat : Int) == 46 || (s[k].toNat : Int) == 95 || (s[k].toNat : Int) == 64))) := rfl
      cases e0 : lowB s[k]
      rotate_left
      · skip
        have HV := Lib.hid (HM.out.trans (by rw [e0]))
        go_wp2_with (first | (go_at_call 67; refine (rlow_any _ _).mono ?_; rintro e w' ⟨rfl, rfl⟩) | (go_at_call 69; refine (rup_any _ _).mono ?_; rintro e w' ⟨rfl, rfl⟩) | (go_at_call 68; refine (rdigit_any _ _).mono ?_; rintro e w' ⟨rfl, rfl⟩) | (go_at_call 77; refine (idx_any _ _).mono ?_; rintro e w' ⟨rfl, rfl⟩))
        exact ⟨⟨k + 1, by omega, by go_num, by show _ = _; rw [HS.out, hall.out, HV.out]; rfl⟩, by simp [intOf]; omega⟩
      cases e1 : upB s[k]
      rotate_left
      · skip
        have HV := Lib.hid (HM.out.trans (by rw [e0, e1]))
        go_wp2_with (first | (go_at_call 67; refine (rlow_any _ _).mono ?_; rintro e w' ⟨rfl, rfl⟩) | (go_at_call 69; refine (rup_any _ _).mono ?_; rintro e w' ⟨rfl, rfl⟩) | (go_at_call 68; refine (rdigit_any _ _).mono ?_; rintro e w' ⟨rfl, rfl⟩) | (go_at_call 77; refine (idx_any _ _).mono ?_; rintro e w' ⟨rfl, rfl⟩))
        exact ⟨⟨k + 1, by omega, by go_num, by show _ = _; rw [HS.out, hall.out, HV.out]; rfl⟩, by simp [intOf]; omega⟩
      cases e2 : digB s[k]
      rotate_left
      · skip
        have HV := Lib.hid (HM.out.trans (by rw [e0, e1, e2]))
        go_wp2_with (first | (go_at_call 67; refine (rlow_any _ _).mono ?_; rintro e w' ⟨rfl, rfl⟩) | (go_at_call 69; refine (rup_any _ _).mono ?_; rintro e w' ⟨rfl, rfl⟩) | (go_at_call 68; refine (rdigit_any _ _).mono ?_; rintro e w' ⟨rfl, rfl⟩) | (go_at_call 77; refine (idx_any _ _).mono ?_; rintro e w' ⟨rfl, rfl⟩))
        exact ⟨⟨k + 1, by omega, by go_num, by show _ = _; rw [HS.out, hall.out, HV.out]; rfl⟩, by simp [intOf]; omega⟩
      cases e3 : ((s[k].toNat : Int) == 45)
      rotate_left
      · have f3 : ((s[k].toNat : Int) != 45) = !((s[k].toNat : Int) == 45) := rfl
        rw [e3] at f3
        have HV := Lib.hid (HM.out.trans (by rw [e0, e1, e2, e3]))
        go_wp2_with (first | (go_at_call 67; refine (rlow_any _ _).mono ?_; rintro e w' ⟨rfl, rfl⟩) | (go_at_call 69; refine (rup_any _ _).mono ?_; rintro e w' ⟨rfl, rfl⟩) | (go_at_call 68; refine (rdigit_any _ _).mono ?_; rintro e w' ⟨rfl, rfl⟩) | (go_at_call 77; refine (idx_any _ _).mono ?_; rintro e w' ⟨rfl, rfl⟩))
        exact ⟨⟨k + 1, by omega, by go_num, by show _ = _; rw [HS.out, hall.out, HV.out]; rfl⟩, by simp [intOf]; omega⟩
      have f3 : ((s[k].toNat : Int) != 45) = !((s[k].toNat : Int) == 45) := rfl
      rw [e3] at f3
      cases e4 : ((s[k].toNat : Int) == 46)
      rotate_left
      · have f4 : ((s[k].toNat : Int) != 46) = !((s[k].toNat : Int) == 46) := rfl
        rw [e4] at f4
        have HV := Lib.hid (HM.out.trans (by rw [e0, e1, e2, e3, e4]))
        go_wp2_with (first | (go_at_call 67; refine (rlow_any _ _).mono ?_; rintro e w' ⟨rfl, rfl⟩) | (go_at_call 69; refine (rup_any _ _).mono ?_; rintro e w' ⟨rfl, rfl⟩) | (go_at_call 68; refine (rdigit_any _ _).mono ?_; rintro e w' ⟨rfl, rfl⟩) | (go_at_call 77; refine (idx_any _ _).mono ?_; rintro e w' ⟨rfl, rfl⟩))
        exact ⟨⟨k + 1, by omega, by go_num, by show _ = _; rw [HS.out, hall.out, HV.out]; rfl⟩, by simp [intOf]; omega⟩
      have f4 : ((s[k].toNat : Int) != 46) = !((s[k].toNat : Int) == 46) := rfl
      rw [e4] at f4
      cases e5 : ((s[k].toNat : Int) == 95)
      rotate_left
      · have f5 : ((s[k].toNat : Int) != 95) = !((s[k].toNat : Int) == 95) := rfl
        rw [e5] at f5
        have HV := Lib.hid (HM.out.trans (by rw [e0, e1, e2, e3, e4, e5]))
        go_wp2_with (first | (go_at_call 67; refine (rlow_any _ _).mono ?_; rintro e w' ⟨rfl, rfl⟩) | (go_at_call 69; refine (rup_any _ _).mono ?_; rintro e w' ⟨rfl, rfl⟩) | (go_at_call 68; refine (rdigit_any _ _).mono ?_; rintro e w' ⟨rfl, rfl⟩) | (go_at_call 77; refine (idx_any _ _).mono ?_; rintro e w' ⟨rfl, rfl⟩))
        exact ⟨⟨k + 1, by omega, by go_num, by show _ = _; rw [HS.out, hall.out, HV.out]; rfl⟩, by simp [intOf]; omega⟩
      have f5 : ((s[k].toNat : Int) != 95) = !((s[k].toNat : Int) == 95) := rfl
      rw [e5] at f5
      cases e6 : ((s[k].toNat : Int) == 64)
      rotate_left
      · have f6 : ((s[k].toNat : Int) != 64) = !((s[k].toNat : Int) == 64) := rfl
        rw [e6] at f6
        have HV := Lib.hid (HM.out.trans (by rw [e0, e1, e2, e3, e4, e5, e6]))
        go_wp2_with (first | (go_at_call 67; refine (rlow_any _ _).mono ?_; rintro e w' ⟨rfl, rfl⟩) | (go_at_call 69; refine (rup_any _ _).mono ?_; rintro e w' ⟨rfl, rfl⟩) | (go_at_call 68; refine (rdigit_any _ _).mono ?_; rintro e w' ⟨rfl, rfl⟩) | (go_at_call 77; refine (idx_any _ _).mono ?_; rintro e w' ⟨rfl, rfl⟩))
        exact ⟨⟨k + 1, by omega, by go_num, by show _ = _; rw [HS.out, hall.out, HV.out]; rfl⟩, by simp [intOf]; omega⟩
      have f6 : ((s[k].toNat : Int) != 64) = !((s[k].toNat : Int) == 64) := rfl
      rw [e6] at f6
      have HV := Lib.hid (HM.out.trans (by rw [e0, e1, e2, e3, e4, e5, e6]))
      go_wp2_with (first | (go_at_call 67; refine (rlow_any _ _).mono ?_; rintro e w' ⟨rfl, rfl⟩) | (go_at_call 69; refine (rup_any _ _).mono ?_; rintro e w' ⟨rfl, rfl⟩) | (go_at_call 68; refine (rdigit_any _ _).mono ?_; rintro e w' ⟨rfl, rfl⟩) | (go_at_call 77; refine (idx_any _ _).mono ?_; rintro e w' ⟨rfl, rfl⟩))
      go_ret
      exact ⟨ret_bool (HB.out HV.out).symm, rfl⟩
    · have HG := Lib.hid (HN.out.trans (all_good s k hlt uiB hall.out))
      go_wp2
      go_ret
      exact ⟨ret_bool HG.out.symm, rfl⟩
end Go.Proofs.YtphijnkiiokieaaGreatDoor.Id
/- Conditions. -/
namespace Go.Proofs.YtphijnkiiokieaaGreatDoor.Et
open Go.RowKit
set_option linter.unusedVariables false
def mayB (k v : Int) : Bool := if k = 0 ∨ k = 1 ∨ k = 2 then v == 0 else if k = 3 then decide (1 ≤ v) else false
theorem kinds (k : Int) : k = 0 ∨ k = 1 ∨ k = 2 ∨ k = 3 ∨ ((k == 0) = false ∧ (k == 1) = false ∧ (k == 2) = false ∧ (k == 3) = false ∧ ∀ v, mayB k v = false) := by
  by_cases h0 : k = 0
  · exact .inl h0
  by_cases h1 : k = 1
  · exact .inr (.inl h1)
  by_cases h2 : k = 2
  · exact .inr (.inr (.inl h2))
  by_cases h3 : k = 3
  · exact .inr (.inr (.inr (.inl h3)))
  · exact .inr (.inr (.inr (.inr ⟨by simpa using h0, by simpa using h1, by simpa using h2, by simpa using h3, fun v => by simp [mayB, h0, h1, h2, h3]⟩)))
set_option maxHeartbeats 400000 in
theorem may_any (k v : Int) (w : World) : Calls Tryz.prog 66 #[.agg #[.int .i64 k, .int .i64 v]] w fun e w' => e = .returned (.bool (mayB k v)) ∧ Below w.heap.size w w' := by
  rcases kinds k with rfl | rfl | rfl | rfl | ⟨h0, h1, h2, h3, hm⟩
  · go_enter Tryz.func66, Tryz.ntmps66
    go_wp2
    all_goals go_ret
    all_goals exact ⟨by first | rfl | (simp [mayB]; done), by go_grown⟩
  · go_enter Tryz.func66, Tryz.ntmps66
    go_wp2
    all_goals go_ret
    all_goals exact ⟨by first | rfl | (simp [mayB]; done), by go_grown⟩
  · go_enter Tryz.func66, Tryz.ntmps66
    go_wp2
    all_goals go_ret
    all_goals exact ⟨by first | rfl | (simp [mayB]; done), by go_grown⟩
  · go_enter Tryz.func66, Tryz.ntmps66
    go_wp2
    all_goals go_ret
    all_goals exact ⟨by first | rfl | (simp [mayB]; done), by go_grown⟩
  · have HM := Lib.hid hm
    clear hm
    go_enter Tryz.func66, Tryz.ntmps66
    go_wp2
    all_goals go_ret
    all_goals exact ⟨ret_bool (HM.out v).symm, by go_grown⟩
set_option maxHeartbeats 400000 in
theorem rmay_any (k v : Int) (w : World) : Calls Tryz.prog 51 #[.agg #[.int .i64 k, .int .i64 v]] w fun e w' => e = .returned (.bool (mayB k v)) ∧ Below w.heap.size w w' := by
  rcases kinds k with rfl | rfl | rfl | rfl | ⟨h0, h1, h2, h3, hm⟩
  · go_enter Tryz.func51, Tryz.ntmps51
    go_wp2
    all_goals go_ret
    all_goals exact ⟨by first | rfl | (simp [mayB]; done), by go_grown⟩
  · go_enter Tryz.func51, Tryz.ntmps51
    go_wp2
    all_goals go_ret
    all_goals exact ⟨by first | rfl | (simp [mayB]; done), by go_grown⟩
  · go_enter Tryz.func51, Tryz.ntmps51
    go_wp2
    all_goals go_ret
    all_goals exact ⟨by first | rfl | (simp [mayB]; done), by go_grown⟩
  · go_enter Tryz.func51, Tryz.ntmps51
    go_wp2
    all_goals go_ret
    all_goals exact ⟨by first | rfl | (simp [mayB]; done), by go_grown⟩
  · have HM := Lib.hid hm
    clear hm
    go_enter Tryz.func51, Tryz.ntmps51
    go_wp2
    all_goals go_ret
    all_goals exact ⟨ret_bool (HM.out v).symm, by go_grown⟩
end Go.Proofs.YtphijnkiiokieaaGreatDoor.Et
/- Texts: small letters. -/
namespace Go.Proofs.YtphijnkiiokieaaGreatDoor
open Go.RowKit
set_option linter.unusedVariables false
set_option maxRecDepth 100000
def low (c : UInt8) : UInt8 := if 65 ≤ (c.toNat : Int) ∧ (c.toNat : Int) ≤ 90 then UInt8.ofNat (c.toNat + 32) else c
def lowL (l : List UInt8) : List UInt8 := l.map low
def lowS (s : ByteArray) : ByteArray := ⟨(lowL s.data.toList).toArray⟩
theorem bs_ext {a b : ByteArray} (h : a.data.toList = b.data.toList) : a = b := ByteArray.ext (Array.toList_inj.1 h)
theorem bs_size (a : ByteArray) : a.size = a.data.toList.length := by simp
/-- A row of the call's own that reads as l. -/
def Row (w : World) (g m : Nat) (l : List UInt8) : Prop := ∃ C : Array Value, w.heap[g]? = some (.cells C 5 (m, m + 1)) ∧ C.size = m ∧ l.length ≤ m ∧ ∀ (j : Nat) (u : UInt8), l[j]? = some u → C[j]? = some (.int .u8 (u.toNat : Int))
theorem Row.cell {w : World} {g m : Nat} {l : List UInt8} (h : Row w g m l) {j : Nat} {u : UInt8} (hj : l[j]? = some u) : w.cell? ⟨g, j, none⟩ = some (.int .u8 (u.toNat : Int)) ∧ w.frozen? ⟨g, j, none⟩ = false := by
  obtain ⟨C, h1, h2, h3, h4⟩ := h
  have hlt := (List.getElem?_eq_some_iff.1 hj).1
  refine ⟨by rw [cell_of_row w g j C 5 _ h1]; exact h4 j u hj, ?_⟩
  simp [World.frozen?, h1]
  omega
theorem Row.set {w : World} {g m : Nat} {l : List UInt8} (h : Row w g m l) (k : Nat) (u : UInt8) : Row (w.setCell ⟨g, k, none⟩ (.int .u8 (u.toNat : Int))) g m (l.set k u) := by
  obtain ⟨C, h1, h2, h3, h4⟩ := h
  refine ⟨C.setIfInBounds k (.int .u8 (u.toNat : Int)), by simp [World.setCell, Array.getElem?_modify, h1], by rw [Array.size_setIfInBounds]; exact h2, by rw [List.length_set]; exact h3, fun j v hj => ?_⟩
  rw [List.getElem?_set] at hj
  rw [Array.getElem?_setIfInBounds]
  by_cases e : k = j
  · subst e
    rw [if_pos rfl] at hj
    by_cases hk : k < l.length
    · rw [if_pos hk] at hj
      cases hj
      rw [if_pos rfl, if_pos (by omega)]
    · rw [if_neg hk] at hj; cases hj
  · rw [if_neg e] at hj
    rw [if_neg e]
    exact h4 j v hj
theorem row_str (w : World) (s : ByteArray) (cap : Nat) (hc : s.size ≤ cap) (g : Nat) (hg : w.heap.size = g) : Row (w.alloc (.cells (bytesRow s cap) 5 ((bytesRow s cap).size, (bytesRow s cap).size + 1))) g cap s.data.toList := by
  have hz : (bytesRow s cap).size = cap := by unfold bytesRow; simp; omega
  refine ⟨bytesRow s cap, by rw [← hg]; simpa [hz] using heap_alloc_new w (.cells (bytesRow s cap) 5 ((bytesRow s cap).size, (bytesRow s cap).size + 1)), hz, by simpa using hc, fun j u hj => ?_⟩
  have hlt := (List.getElem?_eq_some_iff.1 hj).1
  rw [bytesRow_at s cap j (by simpa using hlt)]
  have := (List.getElem?_eq_some_iff.1 hj).2
  simp at this
  rw [← this]
theorem row_conv {w : World} {g m : Nat} {l : List UInt8} (h : Row w g m l) (cap : Nat) : (convert 27 9 (.slice (some ⟨g, 0, none⟩) l.length cap)).run Tryz.prog w = .ok (.string ⟨l.toArray⟩) w :=
  run_convert_bytes_back _ 27 9 5 _ cap l Tryz.underlying27 Tryz.underlying5 Tryz.underlying9 (fun j hj => by
    have := (h.cell (j := j) (List.getElem?_eq_getElem hj)).1
    rw [add_plain, Nat.zero_add]
    simpa using this)
/-- What stands there after k bytes. -/
def part (l : List UInt8) (k : Nat) : List UInt8 := lowL (l.take k) ++ l.drop k
theorem part_len (l : List UInt8) (k : Nat) : (part l k).length = l.length := by unfold part lowL; simp; omega
theorem part_at (l : List UInt8) (k : Nat) (hk : k < l.length) : (part l k)[k]? = some l[k] := by
  unfold part lowL
  rw [List.getElem?_append_right (by simp; omega)]
  simp [Nat.min_eq_left (Nat.le_of_lt hk)]
theorem part_set (l : List UInt8) (k : Nat) (hk : k < l.length) : (part l k).set k (low l[k]) = part l (k + 1) := by
  apply List.ext_getElem?
  intro j
  rw [List.getElem?_set]
  unfold part lowL
  by_cases e : k = j
  · subst e
    rw [if_pos rfl, if_pos (by simp; omega), List.getElem?_append_left (by simp; omega)]
    simp [hk]
  · rw [if_neg e]
    by_cases hj : j < k
    · rw [List.getElem?_append_left (by simp; omega), List.getElem?_append_left (by simp; omega)]
      simp [hj, show j < k + 1 by omega]
    · rw [List.getElem?_append_right (by simp; omega), List.getElem?_append_right (by simp; omega)]
      simp only [List.length_map, List.length_take, List.getElem?_drop]
      congr 1
      omega
theorem part_same (l : List UInt8) (k : Nat) (hk : k < l.length) (h : low l[k] = l[k]) : part l (k + 1) = part l k := by
  rw [← part_set l k hk, h]
  apply List.ext_getElem?
  intro j
  rw [List.getElem?_set]
  by_cases e : k = j
  · subst e
    rw [if_pos rfl, if_pos (by rw [part_len]; exact hk), part_at l k hk]
  · rw [if_neg e]
end Go.Proofs.YtphijnkiiokieaaGreatDoor
/- Lines of a contact: the words of kinds and labels. -/
namespace Go.Proofs.YtphijnkiiokieaaGreatDoor
open Go.RowKit
open Go.Lib
set_option linter.unusedVariables false
set_option maxRecDepth 20000
def kindW (k : Int) : ByteArray := if k = 1 then ⟨#[110, 97, 109, 101]⟩ else if k = 2 then ⟨#[111, 114, 103]⟩ else if k = 3 then ⟨#[116, 101, 108]⟩ else if k = 4 then ⟨#[109, 97, 105, 108]⟩ else if k = 5 then ⟨#[100, 97, 121]⟩ else if k = 6 then ⟨#[110, 111, 116, 101]⟩ else ⟨#[]⟩
def labelW (k : Int) : ByteArray := if k = 1 then ⟨#[104, 111, 109, 101]⟩ else if k = 2 then ⟨#[119, 111, 114, 107]⟩ else if k = 3 then ⟨#[99, 101, 108, 108]⟩ else ⟨#[]⟩
def headW (k l : Int) : ByteArray := if l = 0 then kindW k else (kindW k ++ ⟨#[59]⟩) ++ labelW l
def labelledB (k l : Int) : Bool := if l = 0 then true else if l = 1 ∨ l = 2 then (k == 4 || k == 3) else if l = 3 then k == 3 else false
theorem kindW_size (k : Int) : ((kindW k).size : Int) ≤ 4 := by
  unfold kindW
  repeat' split
  all_goals decide
theorem labelW_size (k : Int) : ((labelW k).size : Int) ≤ 4 := by
  unfold labelW
  repeat' split
  all_goals decide
theorem kindWord_any (k : Int) (w : World) : Calls Tryz.prog 107 #[.int .i64 k] w fun e w' => e = .returned (.string (kindW k)) ∧ w' = w := by
  by_cases h1 : k = 1
  · subst h1; go_enter Tryz.func107, Tryz.ntmps107; go_wp2; go_ret; exact ⟨rfl, rfl⟩
  by_cases h2 : k = 2
  · subst h2; go_enter Tryz.func107, Tryz.ntmps107; go_wp2; go_ret; exact ⟨rfl, rfl⟩
  by_cases h3 : k = 3
  · subst h3; go_enter Tryz.func107, Tryz.ntmps107; go_wp2; go_ret; exact ⟨rfl, rfl⟩
  by_cases h4 : k = 4
  · subst h4; go_enter Tryz.func107, Tryz.ntmps107; go_wp2; go_ret; exact ⟨rfl, rfl⟩
  by_cases h5 : k = 5
  · subst h5; go_enter Tryz.func107, Tryz.ntmps107; go_wp2; go_ret; exact ⟨rfl, rfl⟩
  by_cases h6 : k = 6
  · subst h6; go_enter Tryz.func107, Tryz.ntmps107; go_wp2; go_ret; exact ⟨rfl, rfl⟩
  have H0 := Lib.hid (show kindW k = ⟨#[]⟩ by unfold kindW; rw [if_neg h1, if_neg h2, if_neg h3, if_neg h4, if_neg h5, if_neg h6])
  have d1 : (k == 1) = false := by simpa using h1
  have d2 : (k == 2) = false := by simpa using h2
  have d3 : (k == 3) = false := by simpa using h3
  have d4 : (k == 4) = false := by simpa using h4
  have d5 : (k == 5) = false := by simpa using h5
  have d6 : (k == 6) = false := by simpa using h6
  clear h1 h2 h3 h4 h5 h6
  go_enter Tryz.func107, Tryz.ntmps107; go_wp2; go_ret
  exact ⟨by rw [H0.out]; rfl, rfl⟩
theorem labelWord_any (k : Int) (w : World) : Calls Tryz.prog 108 #[.int .i64 k] w fun e w' => e = .returned (.string (labelW k)) ∧ w' = w := by
  by_cases h1 : k = 1
  · subst h1; go_enter Tryz.func108, Tryz.ntmps108; go_wp2; go_ret; exact ⟨rfl, rfl⟩
  by_cases h2 : k = 2
  · subst h2; go_enter Tryz.func108, Tryz.ntmps108; go_wp2; go_ret; exact ⟨rfl, rfl⟩
  by_cases h3 : k = 3
  · subst h3; go_enter Tryz.func108, Tryz.ntmps108; go_wp2; go_ret; exact ⟨rfl, rfl⟩
  have H0 := Lib.hid (show labelW k = ⟨#[]⟩ by unfold labelW; rw [if_neg h1, if_neg h2, if_neg h3])
  have d1 : (k == 1) = false := by simpa using h1
  have d2 : (k == 2) = false := by simpa using h2
  have d3 : (k == 3) = false := by simpa using h3
  clear h1 h2 h3
  go_enter Tryz.func108, Tryz.ntmps108; go_wp2; go_ret
  exact ⟨by rw [H0.out]; rfl, rfl⟩
theorem head_any (k l : Int) (w : World) : Calls Tryz.prog 98 #[.int .i64 k, .int .i64 l] w fun e w' => e = .returned (.string (headW k l)) ∧ w' = w := by
  have HK := Lib.hid (fun w => kindWord_any k w)
  have HL := Lib.hid (fun w => labelWord_any l w)
  have hk := kindW_size k
  have hl := labelW_size l
  have H := Lib.hid (show headW k l = if l = 0 then kindW k else (kindW k ++ ⟨#[59]⟩) ++ labelW l from rfl)
  obtain ⟨A, hA⟩ : ∃ A, kindW k = A := ⟨_, rfl⟩
  obtain ⟨B, hB⟩ : ∃ B, labelW l = B := ⟨_, rfl⟩
  rw [hA] at HK hk H
  rw [hB] at HL hl H
  clear hA hB
  have z : ((⟨#[59]⟩ : ByteArray).size : Int) = 1 := rfl
  have hA1 : ((A ++ (⟨#[59]⟩ : ByteArray)).size : Int) ≤ 5 := by rw [ByteArray.size_append]; omega
  by_cases h : l = 0
  · subst h
    have H0 := Lib.hid (show headW k 0 = A by rw [H.out, if_pos rfl])
    go_enter Tryz.func98, Tryz.ntmps98
    go_wp2_with (go_at_call 107; (with_reducible refine (HK.out _).mono ?_); rintro e w1 ⟨rfl, hw⟩; replace hw := hw.symm; subst hw)
    go_ret
    exact ⟨by rw [H0.out]; rfl, rfl⟩
  · have H0 := Lib.hid (show headW k l = (A ++ ⟨#[59]⟩) ++ B by rw [H.out, if_neg h])
    have d : (l == 0) = false := by simpa using h
    clear h
    go_enter Tryz.func98, Tryz.ntmps98
    go_wp2_with (first | (go_at_call 107; (with_reducible refine (HK.out _).mono ?_); rintro e w1 ⟨rfl, hw⟩; replace hw := hw.symm; subst hw) | (go_at_call 108; (with_reducible refine (HL.out _).mono ?_); rintro e w1 ⟨rfl, hw⟩; replace hw := hw.symm; subst hw))
    go_ret
    exact ⟨by rw [H0.out]; rfl, rfl⟩
theorem labelled_any (k l : Int) (w : World) : Calls Tryz.prog 127 #[.int .i64 k, .int .i64 l] w fun e w' => e = .returned (.bool (labelledB k l)) ∧ w' = w := by
  obtain ⟨a, ha⟩ : ∃ a, (k == 4) = a := ⟨_, rfl⟩
  obtain ⟨b, hb⟩ : ∃ b, (k == 3) = b := ⟨_, rfl⟩
  have H := Lib.hid (show labelledB k l = if l = 0 then true else if l = 1 ∨ l = 2 then (a || b) else if l = 3 then b else false by rw [← ha, ← hb]; rfl)
  by_cases h0 : l = 0
  · subst h0
    have H0 := Lib.hid (show labelledB k 0 = true from rfl)
    go_enter Tryz.func127, Tryz.ntmps127; go_wp2; go_ret
    exact ⟨by rw [H0.out]; rfl, rfl⟩
  have d0 : (l == 0) = false := by simpa using h0
  by_cases h1 : l = 1
  · subst h1
    have H0 := Lib.hid (show labelledB k 1 = (a || b) by rw [H.out]; rfl)
    cases a <;> cases b
    all_goals (
      go_enter Tryz.func127, Tryz.ntmps127; go_wp2; go_ret
      exact ⟨by rw [H0.out]; rfl, rfl⟩)
  by_cases h2 : l = 2
  · subst h2
    have H0 := Lib.hid (show labelledB k 2 = (a || b) by rw [H.out]; rfl)
    cases a <;> cases b
    all_goals (
      go_enter Tryz.func127, Tryz.ntmps127; go_wp2; go_ret
      exact ⟨by rw [H0.out]; rfl, rfl⟩)
  by_cases h3 : l = 3
  · subst h3
    have H0 := Lib.hid (show labelledB k 3 = b by rw [H.out]; rfl)
    cases b
    all_goals (
      go_enter Tryz.func127, Tryz.ntmps127; go_wp2; go_ret
      exact ⟨by rw [H0.out]; rfl, rfl⟩)
  have H0 := Lib.hid (show labelledB k l = false by rw [H.out, if_neg h0, if_neg (by omega), if_neg h3])
  have d1 : (l == 1) = false := by simpa using h1
  have d2 : (l == 2) = false := by simpa using h2
  have d3 : (l == 3) = false := by simpa using h3
  clear h0 h1 h2 h3
  go_enter Tryz.func127, Tryz.ntmps127; go_wp2; go_ret
  exact ⟨by rw [H0.out]; rfl, rfl⟩
end Go.Proofs.YtphijnkiiokieaaGreatDoor
/- Dates, as plain numbers; what is said of a year, a month, a day and a date. -/
namespace Go.Proofs.YtphijnkiiokieaaGreatDoor.Day
open Go.RowKit
set_option linter.unusedVariables false
set_option maxRecDepth 20000
def leapB (y : Int) : Bool := decide (1 ≤ y ∧ y ≤ 9999 ∧ y % 4 = 0 ∧ (y % 100 ≠ 0 ∨ y % 400 = 0))
def dim (y m : Int) : Int := if m = 2 then (if y = 0 ∨ leapB y = true then 29 else 28) else if m = 4 ∨ m = 6 ∨ m = 9 ∨ m = 11 then 30 else 31
def mayB (y m d : Int) : Bool := decide (0 ≤ y ∧ y ≤ 9999 ∧ 1 ≤ m ∧ m ≤ 12 ∧ 1 ≤ d ∧ d ≤ dim y m)
def cumN (y : Int) : Nat → Int
  | 0 => 0
  | k + 1 => cumN y k + dim y ((k : Int) + 1)
def base (y : Int) : Int := (y - 1) * 365 + (y - 1) / 4 - (y - 1) / 100 + (y - 1) / 400
def cnt (y m d : Int) : Int := if mayB y m d = true ∧ y ≠ 0 then base y + cumN y (m - 1).toNat + d - 1 else -1
theorem dim_bd (y m : Int) : 28 ≤ dim y m ∧ dim y m ≤ 31 := by
  unfold dim; split <;> split <;> omega
theorem cum_bd (y : Int) (k : Nat) : 0 ≤ cumN y k ∧ cumN y k ≤ 31 * k := by
  induction k with
  | zero => simp [cumN]
  | succ k ih => have := dim_bd y ((k : Int) + 1); simp only [cumN]; omega
theorem may_iff {y m d : Int} : mayB y m d = true ↔ 0 ≤ y ∧ y ≤ 9999 ∧ 1 ≤ m ∧ m ≤ 12 ∧ 1 ≤ d ∧ d ≤ dim y m := by unfold mayB; simp
theorem leap_any (y : Int) (w : World) : Calls Tryz.prog 194 #[.int .i64 y] w fun e w' => e = .returned (.bool (leapB y)) ∧ w' = w := by
  by_cases h1 : y < 1
  · go_enter Tryz.func194, Tryz.ntmps194
    go_wp2
    go_ret
    exact ⟨ret_bool (by unfold leapB; simp; omega), rfl⟩
  · by_cases h2 : y > 9999
    · go_enter Tryz.func194, Tryz.ntmps194
      go_wp2
      go_ret
      exact ⟨ret_bool (by unfold leapB; simp; omega), rfl⟩
    · have h0 : 0 ≤ y := by omega
      have e4 : y.tmod 4 = y % 4 := Int.tmod_eq_emod_of_nonneg h0
      have e100 : y.tmod 100 = y % 100 := Int.tmod_eq_emod_of_nonneg h0
      have e400 : y.tmod 400 = y % 400 := Int.tmod_eq_emod_of_nonneg h0
      by_cases c4 : y % 4 = 0
      · by_cases c100 : y % 100 = 0
        · by_cases c400 : y % 400 = 0
          · go_enter Tryz.func194, Tryz.ntmps194
            go_wp2
            go_ret
            exact ⟨ret_bool (by unfold leapB; simp; omega), rfl⟩
          · have d400 : (y % 400 == 0) = false := by simpa using c400
            go_enter Tryz.func194, Tryz.ntmps194
            go_wp2
            go_ret
            exact ⟨ret_bool (by unfold leapB; simp; omega), rfl⟩
        · have d100 : (y % 100 == 0) = false := by simpa using c100
          go_enter Tryz.func194, Tryz.ntmps194
          go_wp2
          go_ret
          exact ⟨ret_bool (by unfold leapB; simp; omega), rfl⟩
      · have d4 : (y % 4 == 0) = false := by simpa using c4
        go_enter Tryz.func194, Tryz.ntmps194
        go_wp2
        go_ret
        exact ⟨ret_bool (by unfold leapB; simp; omega), rfl⟩
theorem length_any (y m : Int) (w : World) : Calls Tryz.prog 186 #[.int .i64 y, .int .i64 m] w fun e w' => e = .returned (.int .i64 (dim y m)) ∧ w' = w := by
  by_cases h2 : m = 2
  · subst h2
    by_cases h0 : y = 0
    · subst h0
      go_enter Tryz.func186, Tryz.ntmps186
      go_wp2_with (first
        | (go_at_call 194; refine (leap_any _ _).mono ?_; rintro _ w2 ⟨rfl, hw⟩; replace hw := hw.symm; subst hw)
        | fail)
      go_ret
      exact ⟨rfl, rfl⟩
    · have d0 : (y == 0) = false := by simpa using h0
      cases hl : leapB y
      all_goals (
        have HL := Lib.hid hl
        clear hl
        go_enter Tryz.func186, Tryz.ntmps186
        go_wp2_with (first
          | (go_at_call 194; refine (leap_any _ _).mono ?_; rintro _ w2 ⟨rfl, hw⟩; replace hw := hw.symm; subst hw; rw [HL.out])
          | fail)
        go_ret
        exact ⟨ret_i64 (by unfold dim; rw [HL.out]; simp [h0]), rfl⟩)
  · have d2 : (m == 2) = false := by simpa using h2
    by_cases h4 : m = 4
    · subst h4
      go_enter Tryz.func186, Tryz.ntmps186
      go_wp2
      go_ret
      exact ⟨ret_i64 (by unfold dim; simp), rfl⟩
    · have d4 : (m == 4) = false := by simpa using h4
      by_cases h6 : m = 6
      · subst h6
        go_enter Tryz.func186, Tryz.ntmps186
        go_wp2
        go_ret
        exact ⟨ret_i64 (by unfold dim; simp), rfl⟩
      · have d6 : (m == 6) = false := by simpa using h6
        by_cases h9 : m = 9
        · subst h9
          go_enter Tryz.func186, Tryz.ntmps186
          go_wp2
          go_ret
          exact ⟨ret_i64 (by unfold dim; simp), rfl⟩
        · have d9 : (m == 9) = false := by simpa using h9
          by_cases h11 : m = 11
          · subst h11
            go_enter Tryz.func186, Tryz.ntmps186
            go_wp2
            go_ret
            exact ⟨ret_i64 (by unfold dim; simp), rfl⟩
          · have d11 : (m == 11) = false := by simpa using h11
            go_enter Tryz.func186, Tryz.ntmps186
            go_wp2
            go_ret
            exact ⟨ret_i64 (by unfold dim; rw [if_neg h2, if_neg (by omega)]), rfl⟩
theorem may_any (y m d : Int) (w : World) : Calls Tryz.prog 170 #[.agg #[.int .i64 y, .int .i64 m, .int .i64 d]] w fun e w' => e = .returned (.bool (mayB y m d)) ∧ Below w.heap.size w w' := by
  by_cases c : 0 ≤ y ∧ y ≤ 9999 ∧ 1 ≤ m ∧ m ≤ 12
  · obtain ⟨c1, c2, c3, c4⟩ := c
    have HM := Lib.hid (⟨c1, c2, c3, c4⟩ : 0 ≤ y ∧ y ≤ 9999 ∧ 1 ≤ m ∧ m ≤ 12)
    have HD := Lib.hid (dim_bd y m)
    by_cases h1 : 1 ≤ d
    · go_enter Tryz.func170, Tryz.ntmps170
      go_wp2
      go_quiet ((go_at_call 186; exact Calls.quiet_of_same (length_any _ _ _)))
      go_wp2
      go_ret
      exact ⟨ret_bool (by have := HM.out; rw [Bool.eq_iff_iff]; simp [mayB, h1, this]), below_drewN ((Below.refl _ _).alloc (Nat.le_refl _) _) _⟩
    · have hd : decide (1 ≤ d) = false := by simpa using h1
      go_enter Tryz.func170, Tryz.ntmps170
      go_wp2
      go_quiet ((go_at_call 186; exact Calls.quiet_of_same (length_any _ _ _)))
      go_wp2
      go_ret
      exact ⟨ret_bool (by unfold mayB; simp; omega), below_drewN ((Below.refl _ _).alloc (Nat.le_refl _) _) _⟩
  · have hf : mayB y m d = false := by unfold mayB; simp; omega
    have HF := Lib.hid hf
    have HC := Lib.hid c
    clear c hf
    rw [HF.out]
    by_cases a1 : y < 0
    · go_enter Tryz.func170, Tryz.ntmps170
      go_wp2
      go_ret
      exact ⟨rfl, (Below.refl _ _).alloc (Nat.le_refl _) _⟩
    · by_cases a2 : y > 9999
      · go_enter Tryz.func170, Tryz.ntmps170
        go_wp2
        go_ret
        exact ⟨rfl, (Below.refl _ _).alloc (Nat.le_refl _) _⟩
      · by_cases a3 : m < 1
        · go_enter Tryz.func170, Tryz.ntmps170
          go_wp2
          go_ret
          exact ⟨rfl, (Below.refl _ _).alloc (Nat.le_refl _) _⟩
        · have a4 : m > 12 := by have := HC.out; omega
          go_enter Tryz.func170, Tryz.ntmps170
          go_wp2
          go_ret
          exact ⟨rfl, (Below.refl _ _).alloc (Nat.le_refl _) _⟩
theorem bcell {W w1 : World} (hb : Below W.heap.size W w1) : (∀ b o, b < W.heap.size → w1.cell? ⟨b, o, none⟩ = W.cell? ⟨b, o, none⟩) ∧ (∀ b o, b < W.heap.size → w1.frozen? ⟨b, o, none⟩ = W.frozen? ⟨b, o, none⟩) :=
  ⟨fun b o h => hb.cell (p := ⟨b, o, none⟩) h, fun b o h => hb.frozen (p := ⟨b, o, none⟩) h⟩
/-- A date in a box of the call's own. -/
theorem Blk3.cells {w w1 : World} {y m d : Int} (h : Blk w1 w.heap.size 130 #[.int .i64 y, .int .i64 m, .int .i64 d]) : w1.cell? ⟨w.heap.size, 0, none⟩ = some (.int .i64 y) ∧ w1.cell? ⟨w.heap.size, 1, none⟩ = some (.int .i64 m) ∧ w1.cell? ⟨w.heap.size, 2, none⟩ = some (.int .i64 d) :=
  ⟨h.cell 0, h.cell 1, h.cell 2⟩
theorem leap_in (y : Int) : (leapB y = true ∧ 1 ≤ y) ∨ leapB y = false := by
  cases h : leapB y
  · exact .inr rfl
  · left; unfold leapB at h; simp at h; exact ⟨rfl, h.1⟩
structure Bx2 (w0 wr : World) (B C : Nat) (y m d ty tm td : Int) : Prop where
  one : Blk wr B 130 #[.int .i64 y, .int .i64 m, .int .i64 d]
  two : Blk wr C 130 #[.int .i64 ty, .int .i64 tm, .int .i64 td]
  bel : Below w0.heap.size w0 wr
theorem Bx2.step {w0 wr w' : World} {B C : Nat} {y m d ty tm td : Int} (h : Bx2 w0 wr B C y m d ty tm td) (hb : Below wr.heap.size wr w') : Bx2 w0 w' B C y m d ty tm td :=
  ⟨h.one.below hb h.one.lt, h.two.below hb h.two.lt, h.bel.trans (hb.mono h.bel.size)⟩
end Go.Proofs.YtphijnkiiokieaaGreatDoor.Day
/- Lines of a contact: which is ahead. -/
namespace Go.Proofs.YtphijnkiiokieaaGreatDoor
open Go.RowKit
set_option linter.unusedVariables false
set_option maxRecDepth 20000
abbrev fieldV (k l : Int) (v : ByteArray) : Value := .agg #[.int .i64 k, .int .i64 l, .string v]
def lessF (k l : Int) (v : ByteArray) (k2 l2 : Int) (v2 : ByteArray) : Bool := if k = k2 then (if l = l2 then Op.bytesLess v.toList v2.toList else decide (l < l2)) else decide (k < k2)
theorem two_boxes (w : World) (t : TypeId) (a b : Array Value) : Below w.heap.size w ((w.alloc (.cells a t)).alloc (.cells b t)) := ((Below.refl _ _).alloc (Nat.le_refl _) _).alloc (by simp) _
set_option maxHeartbeats 2000000 in
theorem less_any (k l : Int) (v : ByteArray) (k2 l2 : Int) (v2 : ByteArray) (w : World) : Calls Tryz.prog 131 #[fieldV k l v, fieldV k2 l2 v2] w fun e w' => e = .returned (.bool (lessF k l v k2 l2 v2)) ∧ Below w.heap.size w w' := by
  obtain ⟨r, hr⟩ : ∃ r, lessF k l v k2 l2 v2 = r := ⟨_, rfl⟩
  rw [hr]
  have HR := Lib.hid (show r = if k = k2 then (if l = l2 then Op.bytesLess v.toList v2.toList else decide (l < l2)) else decide (k < k2) by rw [← hr]; rfl)
  clear hr
  by_cases h : k = k2
  · have d : (k != k2) = false := by simpa using h
    by_cases g : l = l2
    · have d2 : (l != l2) = false := by simpa using g
      have H0 := Lib.hid (show r = Op.bytesLess v.toList v2.toList by rw [HR.out, if_pos h, if_pos g])
      go_enter Tryz.func131, Tryz.ntmps131
      go_wp2
      go_ret
      exact ⟨by rw [H0.out]; rfl, two_boxes _ _ _ _⟩
    · have d2 : (l != l2) = true := by simpa using g
      have H0 := Lib.hid (show r = decide (l < l2) by rw [HR.out, if_pos h, if_neg g])
      go_enter Tryz.func131, Tryz.ntmps131
      go_wp2
      go_ret
      exact ⟨by rw [H0.out]; rfl, two_boxes _ _ _ _⟩
  · have d : (k != k2) = true := by simpa using h
    have H0 := Lib.hid (show r = decide (k < k2) by rw [HR.out, if_neg h])
    go_enter Tryz.func131, Tryz.ntmps131
    go_wp2
    go_ret
    exact ⟨by rw [H0.out]; rfl, two_boxes _ _ _ _⟩
end Go.Proofs.YtphijnkiiokieaaGreatDoor
namespace Go.Proofs.YtphijnkiiokieaaGreatDoor
open Go.RowKit
open Go.Lib
set_option linter.unusedVariables false
set_option linter.unusedSimpArgs false
set_option maxRecDepth 100000
def ordF (k l : Int) (v : ByteArray) (k2 l2 : Int) (v2 : ByteArray) : Int := if lessF k l v k2 l2 v2 = true then -1 else if lessF k2 l2 v2 k l v = true then 1 else 0
set_option maxHeartbeats 2000000 in
theorem order_any (k l : Int) (v : ByteArray) (k2 l2 : Int) (v2 : ByteArray) (w : World) : Calls Tryz.prog 113 #[fieldV k l v, fieldV k2 l2 v2] w fun e w' => e = .returned (.int .i64 (ordF k l v k2 l2 v2)) ∧ Below w.heap.size w w' := by
  obtain ⟨wA, hwA⟩ : ∃ wA, (w.alloc (.cells #[.int .i64 k, .int .i64 l, .string v] 92)).alloc (.cells #[.int .i64 k2, .int .i64 l2, .string v2] 92) = wA := ⟨_, rfl⟩
  obtain ⟨n, hn⟩ : ∃ n, w.heap.size = n := ⟨_, rfl⟩
  have HB1 := Lib.hid (show Blk wA n 92 #[.int .i64 k, .int .i64 l, .string v] from hwA ▸ hn ▸ (Blk.new w _ _).alloc _)
  have HB2 := Lib.hid (show Blk wA (n + 1) 92 #[.int .i64 k2, .int .i64 l2, .string v2] from by
    have := Blk.new (w.alloc (.cells #[.int .i64 k, .int .i64 l, .string v] 92)) 92 #[.int .i64 k2, .int .i64 l2, .string v2]
    rw [World.size_alloc, hwA, hn] at this
    exact this)
  have HW := Lib.hid (show Below n w wA from hwA ▸ hn ▸ two_boxes w 92 _ _)
  have HN := Lib.hid hn
  have a0 : wA.cell? ⟨n, 0, none⟩ = some (.int .i64 k) := HB1.out.cell 0
  have a1 : wA.cell? ⟨n, 1, none⟩ = some (.int .i64 l) := HB1.out.cell 1
  have a2 : wA.cell? ⟨n, 2, none⟩ = some (.string v) := HB1.out.cell 2
  have b0 : wA.cell? ⟨n + 1, 0, none⟩ = some (.int .i64 k2) := HB2.out.cell 0
  have b1 : wA.cell? ⟨n + 1, 1, none⟩ = some (.int .i64 l2) := HB2.out.cell 1
  have b2 : wA.cell? ⟨n + 1, 2, none⟩ = some (.string v2) := HB2.out.cell 2
  obtain ⟨r1, hr1⟩ : ∃ r, lessF k l v k2 l2 v2 = r := ⟨_, rfl⟩
  obtain ⟨r2, hr2⟩ : ∃ r, lessF k2 l2 v2 k l v = r := ⟨_, rfl⟩
  have HO := Lib.hid (show ordF k l v k2 l2 v2 = if r1 = true then -1 else if r2 = true then 1 else 0 from by unfold ordF; rw [hr1, hr2])
  have HL1 := Lib.hid (less_any k l v k2 l2 v2 wA)
  have HL2 := Lib.hid (fun W => less_any k2 l2 v2 k l v W)
  rw [hr1] at HL1
  rw [hr2] at HL2
  rw [HO.out]
  clear hr1 hr2
  go_enter Tryz.func113, Tryz.ntmps113
  go_wp2_with fail
  refine HL1.out.mono ?_
  rintro _ w1 ⟨rfl, hb⟩
  have HX1 := Lib.hid (HB1.out.below hb HB1.out.lt)
  have HX2 := Lib.hid (HB2.out.below hb HB2.out.lt)
  have HW1 := Lib.hid (HW.out.trans (hb.mono (show n ≤ wA.heap.size from by have := HW.out.size; have := HN.out; omega)))
  clear hb a0 a1 a2 b0 b1 b2 hwA
  cases r1 with
  | true =>
    go_wp2
    go_ret
    exact ⟨rfl, HN.out ▸ HW1.out⟩
  | false =>
    have a0 : w1.cell? ⟨n, 0, none⟩ = some (.int .i64 k) := HX1.out.cell 0
    have a1 : w1.cell? ⟨n, 1, none⟩ = some (.int .i64 l) := HX1.out.cell 1
    have a2 : w1.cell? ⟨n, 2, none⟩ = some (.string v) := HX1.out.cell 2
    have b0 : w1.cell? ⟨n + 1, 0, none⟩ = some (.int .i64 k2) := HX2.out.cell 0
    have b1 : w1.cell? ⟨n + 1, 1, none⟩ = some (.int .i64 l2) := HX2.out.cell 1
    have b2 : w1.cell? ⟨n + 1, 2, none⟩ = some (.string v2) := HX2.out.cell 2
    go_wp2_with fail
    refine (HL2.out w1).mono ?_
    rintro _ w2 ⟨rfl, hb⟩
    have HW2 := Lib.hid (HW1.out.trans (hb.mono (show n ≤ w1.heap.size from by have := HW1.out.size; have := HN.out; omega)))
    clear hb
    cases r2 <;> (
      go_wp2
      go_ret
      exact ⟨by first | rfl | simp, HN.out ▸ HW2.out⟩)
end Go.Proofs.YtphijnkiiokieaaGreatDoor
