/- QuotaTells' walk. -/
import Derived.Test.YtdojdebelmfnhaaQuo4
import Derived.Test.YtdojdebelmfnhaaOpen
namespace Go.Proofs.Ytdojdebelmfnhaa
open Go.RowKit
set_option linter.unusedVariables false
set_option maxHeartbeats 400000 in
theorem tells_no (a b c d : Int) (w : World) (h : okq a b c d = false) :
    Calls Try.prog 3 #[.agg #[.int .i64 a, .int .i64 b, .int .i64 c, .int .i64 d]] w fun e w' => e = .returned (.bool true) ∧ Below w.heap.size w w' := by
  have H := Lib.hid (erq_no h)
  have HH := Lib.hid h
  clear h
  go_enter Try.func3, Try.ntmps3
  go_wp2_with fail
  refine (first_any _).mono ?_; rintro x w1 ⟨rfl, hb1⟩
  obtain ⟨hc1, hf1⟩ := bcell hb1
  go_wp2_with fail
  refine (checkQuota_any _ _ _ _ _).mono ?_; rintro x w2 ⟨rfl, hb2⟩
  rw [H.out]
  obtain ⟨hc2, hf2⟩ := bcell hb2
  have hz1 : w.heap.size < w1.heap.size := by have := hb1.size; simp only [World.size_alloc] at this; omega
  have hz2 : w.heap.size < w2.heap.size := by have := hb2.size; omega
  go_wp2_with fail
  refine (new_no _ _ _ _ _ HH.out).mono ?_; rintro x w3 ⟨rfl, hb3⟩
  obtain ⟨hc3, hf3⟩ := bcell hb3
  have hz3 : w.heap.size < w3.heap.size := by have := hb3.size; omega
  go_wp2_with fail
  refine (check_any _ _ _ _ _).mono ?_; rintro x w4 ⟨rfl, hb4⟩
  rw [H.out]
  have hz4 : w.heap.size < w4.heap.size := by have := hb4.size; omega
  have HZ : Hid (Below w.heap.size w w4) :=
    ((((Below.refl _ _).alloc (Nat.le_refl _) _).trans (hb1.mono (by simp))).trans ((hb2.mono (by omega)).trans ((hb3.mono (by omega)).trans (hb4.mono (by omega)))))
  go_wp2
  go_quiet (fail)
  go_wp2
  go_ret
  exact ⟨rfl, below_drewN HZ.out _⟩

set_option maxHeartbeats 400000 in
theorem tells_yes (a b c d : Int) (w : World) (h : okq a b c d = true) :
    Calls Try.prog 3 #[.agg #[.int .i64 a, .int .i64 b, .int .i64 c, .int .i64 d]] w fun e w' => e = .returned (.bool true) ∧ Below w.heap.size w w' := by
  have H := Lib.hid (erq_ok h)
  have HH := Lib.hid h
  have HF := Lib.hid (fits0 h)
  have hbnd : 0 ≤ c ∧ c ≤ 1048576 := by rw [okq_iff] at h; omega
  obtain ⟨hbnd1, hbnd2⟩ := hbnd
  clear h
  go_enter Try.func3, Try.ntmps3
  go_wp2_with fail
  refine (first_any _).mono ?_; rintro x w1 ⟨rfl, hb1⟩
  obtain ⟨hc1, hf1⟩ := bcell hb1
  go_wp2_with fail
  refine (checkQuota_any _ _ _ _ _).mono ?_; rintro x w2 ⟨rfl, hb2⟩
  rw [H.out]
  obtain ⟨hc2, hf2⟩ := bcell hb2
  have hz1 : w.heap.size < w1.heap.size := by have := hb1.size; simp only [World.size_alloc] at this; omega
  have hz2 : w.heap.size < w2.heap.size := by have := hb2.size; omega
  go_wp2_with fail
  refine (new_yes _ _ _ _ _ HH.out).mono ?_; rintro x w3 ⟨g, hg, rfl, hB3, hb3⟩
  obtain ⟨hc3, hf3⟩ := bcell hb3
  have hz3 : w.heap.size < w3.heap.size := by have := hb3.size; omega
  go_wp2_with fail
  refine (check_any _ _ _ _ _).mono ?_; rintro x w4 ⟨rfl, hb4⟩
  rw [H.out]
  have hz4 : w.heap.size < w4.heap.size := by have := hb4.size; omega
  have HZ : Hid (Below w.heap.size w w4) :=
    ((((Below.refl _ _).alloc (Nat.le_refl _) _).trans (hb1.mono (by simp))).trans ((hb2.mono (by omega)).trans ((hb3.mono (by omega)).trans (hb4.mono (by omega)))))
  have HB := Lib.hid (show B6 w4 g 45 a b c d 0 0 from Blk.below hB3 hb4 hB3.lt)
  have h42 : w4.cell? ⟨w.heap.size, 2, none⟩ = some (.int .i64 c) := by
    rw [hb4.cell (p := ⟨w.heap.size, 2, none⟩) hz3, hb3.cell (p := ⟨w.heap.size, 2, none⟩) hz2, hb2.cell (p := ⟨w.heap.size, 2, none⟩) hz1, hb1.cell (p := ⟨w.heap.size, 2, none⟩) (by simp)]
    simp [go_sem]
  clear hc1 hc2 hc3 hf1 hf2 hf3 hb1 hb2 hb3 hb4 hB3
  go_wp2
  go_quiet ((first | (go_at_call 12; exact Calls.quiet_of_same ((cols_any g _ _ _ _ _ _ _ (HB.out.drewN _)).mono fun _ _ ⟨h1, h2⟩ => ⟨h1, h2.symm⟩)) | (go_at_call 13; exact Calls.quiet_of_same ((bytes_any g _ _ _ _ _ _ _ (HB.out.drewN _)).mono fun _ _ ⟨h1, h2⟩ => ⟨h1, h2.symm⟩)) | (go_at_call 14; exact Calls.quiet_of (room_any g _ _ _ _ _ _ _ (HB.out.drewN _) HF.out))))
  go_wp2
  go_ret
  exact ⟨rfl, below_drewN HZ.out _⟩

theorem quotaTells_walk (w : World) (a0 : Int) (w0 : (Lit.int .i64 a0).wf = true) (a1 : Int) (w1 : (Lit.int .i64 a1).wf = true) (a2 : Int) (w2 : (Lit.int .i64 a2).wf = true) (a3 : Int) (w3 : (Lit.int .i64 a3).wf = true) :
    Calls Try.prog 3 #[.agg #[.int .i64 a0, .int .i64 a1, .int .i64 a2, .int .i64 a3]] w fun e w' => e = .returned (.bool true) ∧ Below w.heap.size w w' := by
  cases h : okq a0 a1 a2 a3
  · exact tells_no _ _ _ _ _ h
  · exact tells_yes _ _ _ _ _ h
end Go.Proofs.Ytdojdebelmfnhaa
