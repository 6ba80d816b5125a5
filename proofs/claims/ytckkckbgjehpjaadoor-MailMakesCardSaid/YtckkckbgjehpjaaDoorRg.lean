/- The reference: small letters. -/
import Derived.Test.YtckkckbgjehpjaaDoorFf
namespace Go.Proofs.YtckkckbgjehpjaaDoor
open Go.RowKit
set_option linter.unusedVariables false
set_option maxRecDepth 20000
def upB (c : UInt8) : Bool := decide (65 ≤ (c.toNat : Int)) && decide ((c.toNat : Int) ≤ 90)
set_option maxHeartbeats 1000000 in
theorem up_any (c : UInt8) (w : World) : Calls Tryd.prog 33 #[.int .u8 (c.toNat : Int)] w fun e w' => e = .returned (.bool (upB c)) ∧ w' = w := by
  obtain ⟨r, hr⟩ : ∃ r, upB c = r := ⟨_, rfl⟩
  rw [hr]
  have HR := Lib.hid (show r = (decide (65 ≤ (c.toNat : Int)) && decide ((c.toNat : Int) ≤ 90)) by rw [← hr]; rfl)
  clear hr
  by_cases u1 : 65 ≤ (c.toNat : Int)
  · by_cases u2 : (c.toNat : Int) ≤ 90
    · have e := Lib.hid (show r = true by rw [HR.out]; simp [u1, u2])
      go_enter Tryd.func33, Tryd.ntmps33
      go_wp2
      go_ret
      exact ⟨by rw [e.out]; rfl, rfl⟩
    · have u2' : decide ((c.toNat : Int) ≤ 90) = false := by simpa using u2
      have e := Lib.hid (show r = false by rw [HR.out, u2']; simp)
      go_enter Tryd.func33, Tryd.ntmps33
      go_wp2
      go_ret
      exact ⟨by rw [e.out]; rfl, rfl⟩
  · have u1' : decide (65 ≤ (c.toNat : Int)) = false := by simpa using u1
    have e := Lib.hid (show r = false by rw [HR.out, u1']; simp)
    go_enter Tryd.func33, Tryd.ntmps33
    go_wp2
    go_ret
    exact ⟨by rw [e.out]; rfl, rfl⟩
set_option maxHeartbeats 4000000 in
theorem rfold_any (s : ByteArray) (hs : s.size ≤ 1000000) (w : World) : Calls Tryd.prog 21 #[.string s] w fun e w' => e = .returned (.string (lowS s)) ∧ Below w.heap.size w w' := by
  obtain ⟨cap, hcap⟩ : ∃ cap, grownCap w s.size 0 5 = cap := ⟨_, rfl⟩
  have hge : s.size ≤ cap := by rw [← hcap]; exact grownCap_ge _ _ _ _
  have kc := run_bytes_of_string (P := Tryd.prog) w 9 30 5 s Tryd.underlying9 Tryd.underlying30 Tryd.underlying5
  rw [hcap] at kc
  have HR := Lib.hid (row_str w.drew s cap hge w.heap.size rfl)
  have HB0 : Hid (Below w.heap.size w (w.drew.alloc (.cells (bytesRow s cap) 5 ((bytesRow s cap).size, (bytesRow s cap).size + 1)))) := Lib.hid (((Below.refl _ _).drew).alloc (Nat.le_refl _) _)
  obtain ⟨W1, hW1⟩ : ∃ W1, w.drew.alloc (.cells (bytesRow s cap) 5 ((bytesRow s cap).size, (bytesRow s cap).size + 1)) = W1 := ⟨_, rfl⟩
  rw [hW1] at kc HR HB0
  clear hW1 hcap
  have hcapI : (s.size : Int) ≤ (cap : Int) := by omega
  go_enter Tryd.func21, Tryd.ntmps21
  go_wp2
  go_loopw [4] (fun i wr => ∃ k : Nat, k ≤ s.size ∧ i = .int .i64 (k : Int) ∧ Row wr w.heap.size cap (part s.data.toList k) ∧ Below w.heap.size w wr) (fun i _ => s.size - (intOf i).toNat)
  case atStart => exact ⟨0, Nat.zero_le _, rfl, by unfold part lowL; simpa using HR.out, HB0.out⟩
  case round =>
    obtain ⟨k, hk, rfl, hr, hb⟩ := hrel
    have HRR := Lib.hid hr
    have HBB := Lib.hid hb
    clear hr hb
    by_cases hlt : k < s.size
    · have hkl : k < s.data.toList.length := by simpa using hlt
      obtain ⟨cc, cf⟩ := HRR.out.cell (part_at _ _ hkl)
      obtain ⟨c, hc⟩ : ∃ c, s.data.toList[k] = c := ⟨_, rfl⟩
      rw [hc] at cc
      have hc8 : (c.toNat : Int) ≤ 255 := by have := c.toNat_lt; omega
      have HC := Lib.hid hc
      have HU := Lib.hid (up_any c)
      clear hc
      by_cases u : upB c = true
      · have hu : 65 ≤ (c.toNat : Int) ∧ (c.toNat : Int) ≤ 90 := by unfold upB at u; simpa using u
        have HS := Lib.hid (show Row (wr.setCell ⟨w.heap.size, k, none⟩ (.int .u8 ((c.toNat : Int) + 32))) w.heap.size cap (part s.data.toList (k + 1)) by
          have h := HRR.out.set k (low s.data.toList[k])
          rw [part_set _ _ hkl, HC.out] at h
          have e : ((low c).toNat : Int) = (c.toNat : Int) + 32 := by
            unfold low; rw [if_pos hu, UInt8.toNat_ofNat']; omega
          rwa [e] at h)
        obtain ⟨u1, u2⟩ := hu
        go_wp2_with (go_at_call 33; refine (HU.out _).mono ?_)
        rintro e w1 ⟨rfl, rfl⟩
        rw [u]
        go_wp2
        exact ⟨⟨k + 1, by omega, by go_num, HS.out, HBB.out.setCell (p := ⟨w.heap.size, k, none⟩) (Nat.le_refl _) _⟩, by simp [intOf]; omega⟩
      · have u' : upB c = false := by simpa using u
        have HS := Lib.hid (part_same _ _ hkl (by rw [HC.out]; unfold low; rw [if_neg (by unfold upB at u; simpa using u)]))
        go_wp2_with (go_at_call 33; refine (HU.out _).mono ?_)
        rintro e w1 ⟨rfl, rfl⟩
        rw [u']
        go_wp2
        exact ⟨⟨k + 1, by omega, by go_num, by rw [HS.out]; exact HRR.out, HBB.out⟩, by simp [intOf]; omega⟩
    · have hks : k = s.size := by omega
      subst hks
      have hcv := row_conv HRR.out cap
      have e : part s.data.toList s.size = lowL s.data.toList := by unfold part lowL; rw [List.take_of_length_le (by simp), List.drop_of_length_le (by simp)]; simp
      rw [part_len, ← bs_size, e] at hcv
      go_wp2
      go_ret
      exact ⟨rfl, HBB.out⟩
end Go.Proofs.YtckkckbgjehpjaaDoor
