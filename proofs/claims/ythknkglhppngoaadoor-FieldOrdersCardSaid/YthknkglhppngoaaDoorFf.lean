/- Fold. -/
import Derived.Test.YthknkglhppngoaaDoorFo
namespace Go.Proofs.YthknkglhppngoaaDoor
open Go.RowKit
set_option linter.unusedVariables false
set_option maxRecDepth 100000
set_option maxHeartbeats 4000000 in
theorem fold_any (s : ByteArray) (hs : s.size ≤ 1000000) (w : World) : Calls Tryd.prog 26 #[.string s] w fun e w' => e = .returned (.string (lowS s)) ∧ Below w.heap.size w w' := by
  obtain ⟨cap, hcap⟩ : ∃ cap, grownCap w s.size 0 5 = cap := ⟨_, rfl⟩
  have hge : s.size ≤ cap := by rw [← hcap]; exact grownCap_ge _ _ _ _
  have kc := run_bytes_of_string (P := Tryd.prog) w 9 58 5 s Tryd.underlying9 Tryd.underlying58 Tryd.underlying5
  rw [hcap] at kc
  have HR := Lib.hid (row_str w.drew s cap hge w.heap.size rfl)
  have HB0 : Hid (Below w.heap.size w (w.drew.alloc (.cells (bytesRow s cap) 5 ((bytesRow s cap).size, (bytesRow s cap).size + 1)))) := Lib.hid (((Below.refl _ _).drew).alloc (Nat.le_refl _) _)
  obtain ⟨W1, hW1⟩ : ∃ W1, w.drew.alloc (.cells (bytesRow s cap) 5 ((bytesRow s cap).size, (bytesRow s cap).size + 1)) = W1 := ⟨_, rfl⟩
  rw [hW1] at kc HR HB0
  clear hW1 hcap
  have hcapI : (s.size : Int) ≤ (cap : Int) := by omega
  go_enter Tryd.func26, Tryd.ntmps26
  go_wp2
  go_loopw [10] (fun i wr => ∃ k : Nat, k ≤ s.size ∧ i = .int .i64 (k : Int) ∧ Row wr w.heap.size cap (part s.data.toList k) ∧ Below w.heap.size w wr) (fun i _ => s.size - (intOf i).toNat)
  case atStart => exact ⟨0, Nat.zero_le _, rfl, by unfold part lowL; simpa using HR.out, HB0.out⟩
  case round =>
    obtain ⟨k, hk, rfl, hr, hb⟩ := hrel
    have HRR := Lib.hid hr
    have HBB := Lib.hid hb
    clear hr hb
    by_cases hlt : k < s.size
    · have hkl : k < s.data.toList.length := by simpa using hlt
      obtain ⟨cc, cf⟩ := HRR.out.cell (part_at _ _ hkl)
      obtain ⟨c, hc⟩ : ∃ c, s.data.toList[k] = c := ⟨_, rfl⟩
      rw [hc] at cc
      have hc8 : (c.toNat : Int) ≤ 255 := by have := c.toNat_lt; omega
      have HC := Lib.hid hc
      clear hc
      by_cases u1 : 65 ≤ (c.toNat : Int)
      · by_cases u2 : (c.toNat : Int) ≤ 90
        · have HS := Lib.hid (show Row (wr.setCell ⟨w.heap.size, k, none⟩ (.int .u8 ((c.toNat : Int) - 65 + 97))) w.heap.size cap (part s.data.toList (k + 1)) by
            have h := HRR.out.set k (low s.data.toList[k])
            rw [part_set _ _ hkl, HC.out] at h
            have e : ((low c).toNat : Int) = (c.toNat : Int) - 65 + 97 := by
              unfold low; rw [if_pos ⟨u1, u2⟩, UInt8.toNat_ofNat']; omega
            rwa [e] at h)
          go_wp2
          exact ⟨⟨k + 1, by omega, by go_num, HS.out, HBB.out.setCell (p := ⟨w.heap.size, k, none⟩) (Nat.le_refl _) _⟩, by simp [intOf]; omega⟩
        · have u3 : decide ((c.toNat : Int) ≤ 90) = false := by simp; omega
          have HS := Lib.hid (part_same _ _ hkl (by rw [HC.out]; unfold low; rw [if_neg (by omega)]))
          go_wp2
          exact ⟨⟨k + 1, by omega, by go_num, by rw [HS.out]; exact HRR.out, HBB.out⟩, by simp [intOf]; omega⟩
      · have u3 : decide (65 ≤ (c.toNat : Int)) = false := by simp; omega
        have HS := Lib.hid (part_same _ _ hkl (by rw [HC.out]; unfold low; rw [if_neg (by omega)]))
        go_wp2
        exact ⟨⟨k + 1, by omega, by go_num, by rw [HS.out]; exact HRR.out, HBB.out⟩, by simp [intOf]; omega⟩
    · have hks : k = s.size := by omega
      subst hks
      have hcv := row_conv HRR.out cap
      have e : part s.data.toList s.size = lowL s.data.toList := by unfold part lowL; rw [List.take_of_length_le (by simp), List.drop_of_length_le (by simp)]; simp
      rw [part_len, ← bs_size, e] at hcv
      go_wp2
      go_ret
      exact ⟨rfl, HBB.out⟩
end Go.Proofs.YthknkglhppngoaaDoor
