/- QuotaBack's walk. -/
import Derived.Test.YtdojdebelmfnhaaQuo5
namespace Go.Proofs.Ytdojdebelmfnhaa
open Go.RowKit
set_option linter.unusedVariables false
theorem move_nonneg {f n : Int} (hf : 0 ≤ f) (hn : 0 ≤ n) : qMove f n = f + n := by unfold qMove; omega
set_option maxHeartbeats 400000 in
theorem back_bad (a b c d x n : Int) (w : World) (hx1 : -9223372036854775808 ≤ x) (hx2 : x ≤ 9223372036854775807) (hn1 : -9223372036854775808 ≤ n) (hn2 : n ≤ 9223372036854775807) (h : okq a b c d = false) :
    Calls Try.prog 7 #[.agg #[.int .i64 a, .int .i64 b, .int .i64 c, .int .i64 d], .int .i64 x, .int .i64 n] w fun e w' => e = .returned (.bool true) ∧ Below w.heap.size w w' := by
  have HE := Lib.hid (erq_no h)
  clear h
  go_enter Try.func7, Try.ntmps7
  go_wp2_with fail
  refine (first_any _).mono ?_; rintro y w1 ⟨rfl, hb1⟩
  obtain ⟨hc1, hf1⟩ := bcell hb1
  have hz1 : w.heap.size < w1.heap.size := by have := hb1.size; simp only [World.size_alloc] at this; omega
  go_wp2_with fail
  refine (checkQuota_any _ _ _ _ _).mono ?_; rintro y w2 ⟨rfl, hb2⟩
  rw [HE.out]
  have hz2 : w.heap.size < w2.heap.size := by have := hb2.size; omega
  have HZ2 : Hid (Below w.heap.size w w2) :=
    ((((Below.refl _ _).alloc (Nat.le_refl _) _).trans (hb1.mono (by simp))).trans (hb2.mono (by omega)))
  go_wp2_with fail
  refine (first_any _).mono ?_; rintro y w3 ⟨rfl, hb3⟩
  have HZ3 : Hid (Below w.heap.size w w3) := HZ2.out.trans (hb3.mono (by omega))
  go_wp2
  go_ret
  exact ⟨rfl, HZ3.out⟩
set_option maxHeartbeats 400000 in
theorem back_x (a b c d x n : Int) (w : World) (hx1 : -9223372036854775808 ≤ x) (hx2 : x ≤ 9223372036854775807) (hn1 : -9223372036854775808 ≤ n) (hn2 : n ≤ 9223372036854775807) (h : okq a b c d = true) (h1 : x < 0) :
    Calls Try.prog 7 #[.agg #[.int .i64 a, .int .i64 b, .int .i64 c, .int .i64 d], .int .i64 x, .int .i64 n] w fun e w' => e = .returned (.bool true) ∧ Below w.heap.size w w' := by
  have HE := Lib.hid (erq_ok h)
  clear h
  go_enter Try.func7, Try.ntmps7
  go_wp2_with fail
  refine (first_any _).mono ?_; rintro y w1 ⟨rfl, hb1⟩
  obtain ⟨hc1, hf1⟩ := bcell hb1
  have hz1 : w.heap.size < w1.heap.size := by have := hb1.size; simp only [World.size_alloc] at this; omega
  go_wp2_with fail
  refine (checkQuota_any _ _ _ _ _).mono ?_; rintro y w2 ⟨rfl, hb2⟩
  rw [HE.out]
  have hz2 : w.heap.size < w2.heap.size := by have := hb2.size; omega
  have HZ2 : Hid (Below w.heap.size w w2) :=
    ((((Below.refl _ _).alloc (Nat.le_refl _) _).trans (hb1.mono (by simp))).trans (hb2.mono (by omega)))
  go_wp2_with fail
  refine (first_any _).mono ?_; rintro y w3 ⟨rfl, hb3⟩
  have HZ3 : Hid (Below w.heap.size w w3) := HZ2.out.trans (hb3.mono (by omega))
  go_wp2
  go_ret
  exact ⟨rfl, HZ3.out⟩
set_option maxHeartbeats 400000 in
theorem back_n (a b c d x n : Int) (w : World) (hx1 : -9223372036854775808 ≤ x) (hx2 : x ≤ 9223372036854775807) (hn1 : -9223372036854775808 ≤ n) (hn2 : n ≤ 9223372036854775807) (h : okq a b c d = true) (h0 : 0 ≤ x) (h1 : n < 0) :
    Calls Try.prog 7 #[.agg #[.int .i64 a, .int .i64 b, .int .i64 c, .int .i64 d], .int .i64 x, .int .i64 n] w fun e w' => e = .returned (.bool true) ∧ Below w.heap.size w w' := by
  have HE := Lib.hid (erq_ok h)
  clear h
  go_enter Try.func7, Try.ntmps7
  go_wp2_with fail
  refine (first_any _).mono ?_; rintro y w1 ⟨rfl, hb1⟩
  obtain ⟨hc1, hf1⟩ := bcell hb1
  have hz1 : w.heap.size < w1.heap.size := by have := hb1.size; simp only [World.size_alloc] at this; omega
  go_wp2_with fail
  refine (checkQuota_any _ _ _ _ _).mono ?_; rintro y w2 ⟨rfl, hb2⟩
  rw [HE.out]
  have hz2 : w.heap.size < w2.heap.size := by have := hb2.size; omega
  have HZ2 : Hid (Below w.heap.size w w2) :=
    ((((Below.refl _ _).alloc (Nat.le_refl _) _).trans (hb1.mono (by simp))).trans (hb2.mono (by omega)))
  go_wp2_with fail
  refine (first_any _).mono ?_; rintro y w3 ⟨rfl, hb3⟩
  have HZ3 : Hid (Below w.heap.size w w3) := HZ2.out.trans (hb3.mono (by omega))
  go_wp2
  go_ret
  exact ⟨rfl, HZ3.out⟩
set_option maxHeartbeats 400000 in
theorem back_m (a b c d x n : Int) (w : World) (hx1 : -9223372036854775808 ≤ x) (hx2 : x ≤ 9223372036854775807) (hn1 : -9223372036854775808 ≤ n) (hn2 : n ≤ 9223372036854775807) (h : okq a b c d = true) (h0 : 0 ≤ x) (h2 : 0 ≤ n) (h1 : 2097152 < n) :
    Calls Try.prog 7 #[.agg #[.int .i64 a, .int .i64 b, .int .i64 c, .int .i64 d], .int .i64 x, .int .i64 n] w fun e w' => e = .returned (.bool true) ∧ Below w.heap.size w w' := by
  have HE := Lib.hid (erq_ok h)
  clear h
  go_enter Try.func7, Try.ntmps7
  go_wp2_with fail
  refine (first_any _).mono ?_; rintro y w1 ⟨rfl, hb1⟩
  obtain ⟨hc1, hf1⟩ := bcell hb1
  have hz1 : w.heap.size < w1.heap.size := by have := hb1.size; simp only [World.size_alloc] at this; omega
  go_wp2_with fail
  refine (checkQuota_any _ _ _ _ _).mono ?_; rintro y w2 ⟨rfl, hb2⟩
  rw [HE.out]
  have hz2 : w.heap.size < w2.heap.size := by have := hb2.size; omega
  have HZ2 : Hid (Below w.heap.size w w2) :=
    ((((Below.refl _ _).alloc (Nat.le_refl _) _).trans (hb1.mono (by simp))).trans (hb2.mono (by omega)))
  go_wp2_with fail
  refine (first_any _).mono ?_; rintro y w3 ⟨rfl, hb3⟩
  have HZ3 : Hid (Below w.heap.size w w3) := HZ2.out.trans (hb3.mono (by omega))
  go_wp2
  go_ret
  exact ⟨rfl, HZ3.out⟩
set_option maxHeartbeats 400000 in
theorem back_hn (a b c d x n : Int) (w : World) (hx1 : -9223372036854775808 ≤ x) (hx2 : x ≤ 9223372036854775807) (hn1 : -9223372036854775808 ≤ n) (hn2 : n ≤ 9223372036854775807) (h : okq a b c d = true) (h0 : 0 ≤ x) (h2 : 0 ≤ n) (h3 : n ≤ 2097152) (h4 : x ≤ c) (h5 : c - x < n) :
    Calls Try.prog 7 #[.agg #[.int .i64 a, .int .i64 b, .int .i64 c, .int .i64 d], .int .i64 x, .int .i64 n] w fun e w' => e = .returned (.bool true) ∧ Below w.heap.size w w' := by
  have HE := Lib.hid (erq_ok h)
  have HH := Lib.hid h
  have HF := Lib.hid (fits0 h)
  have hbnd : 1 ≤ a ∧ a ≤ 8 ∧ 1 ≤ c ∧ c ≤ 1048576 := by rw [okq_iff] at h; omega
  obtain ⟨ha1, ha2, hbnd1, hbnd2⟩ := hbnd
  clear h
  go_enter Try.func7, Try.ntmps7
  go_wp2_with fail
  refine (first_any _).mono ?_; rintro y w1 ⟨rfl, hb1⟩
  obtain ⟨hc1, hf1⟩ := bcell hb1
  have hz1 : w.heap.size < w1.heap.size := by have := hb1.size; simp only [World.size_alloc] at this; omega
  go_wp2_with fail
  refine (checkQuota_any _ _ _ _ _).mono ?_; rintro y w2 ⟨rfl, hb2⟩
  rw [HE.out]
  have hz2 : w.heap.size < w2.heap.size := by have := hb2.size; omega
  have HZ2 : Hid (Below w.heap.size w w2) :=
    ((((Below.refl _ _).alloc (Nat.le_refl _) _).trans (hb1.mono (by simp))).trans (hb2.mono (by omega)))
  obtain ⟨hc2, hf2⟩ := bcell hb2
  go_wp2_with fail
  refine (new_yes _ _ _ _ _ HH.out).mono ?_; rintro y w3 ⟨g, hg, rfl, hB3, hb3⟩
  have hz3 : w.heap.size < w3.heap.size := by have := hb3.size; omega
  have hX3 : Blk w3 w.heap.size 23 #[.int .i64 a, .int .i64 b, .int .i64 c, .int .i64 d] :=
    (((Blk.new w 23 _).below hb1 (by simp)).below hb2 hz1).below hb3 hz2
  have HX3 := Lib.hid hX3
  have HZ3 : Hid (Below w.heap.size w w3) := HZ2.out.trans (hb3.mono (by omega))
  have HB3 := Lib.hid hB3
  have HN : Hid (some w.heap.size ≠ some g) := by show some _ ≠ some _; intro e; injection e with e; omega
  clear hc1 hf1 hc2 hf2 hb1 hb2 hb3 hB3 hX3
  go_wp2_with fail
  refine (move_yes g _ _ _ _ _ _ x _ HB3.out HF.out ⟨hx1, hx2⟩ (by omega)).mono ?_; rintro y w4 ⟨rfl, hB4, hg4⟩
  have HF4 := Lib.hid (fits_move HF.out (n := x) (by omega))
  have HM : Hid (qMove 0 x = x) := by show _ = _; unfold qMove; omega
  rw [HM.out] at hB4
  rw [HM.out] at HF4
  have HB4 := Lib.hid hB4
  have HX4 := Lib.hid (HX3.out.grown hg4 HN.out)
  have h42 : w4.cell? ⟨w.heap.size, 2, none⟩ = some (.int .i64 c) := HX4.out.cell 2
  have HZ4 : Hid (Below w.heap.size w w4) := bel HZ3.out hg4 (by omega)
  clear hB4 hg4
  go_wp2_with fail
  refine (bytes_any g _ _ _ _ _ _ _ HB4.out).mono ?_; rintro y w4' ⟨rfl, rfl⟩
  go_wp2_with fail
  refine (move_no g _ _ _ _ _ _ n _ HB4.out HF4.out ⟨hn1, hn2⟩ (by omega)).mono ?_; rintro y w5 ⟨rfl, hB5, hg5⟩
  have HB5 := Lib.hid hB5
  have HX5 := Lib.hid (HX4.out.grown hg5 HN.out)
  have h52 : w5.cell? ⟨w.heap.size, 2, none⟩ = some (.int .i64 c) := HX5.out.cell 2
  have HZ5 : Hid (Below w.heap.size w w5) := bel HZ4.out hg5 (by omega)
  clear hB5 hg5
  go_wp2
  go_quiet ((first | (go_at_call 13; exact Calls.quiet_of_same ((bytes_any g _ _ _ _ _ _ _ (HB5.out.drewN _)).mono fun _ _ ⟨h1, h2⟩ => ⟨h1, h2.symm⟩)) | (go_at_call 14; exact Calls.quiet_of (room_any g _ _ _ _ _ _ _ (HB5.out.drewN _) HF4.out))))
  all_goals go_wp2
  all_goals go_ret
  all_goals exact ⟨rfl, below_drewN HZ5.out _⟩
set_option maxHeartbeats 400000 in
theorem back_hy (a b c d x n : Int) (w : World) (hx1 : -9223372036854775808 ≤ x) (hx2 : x ≤ 9223372036854775807) (hn1 : -9223372036854775808 ≤ n) (hn2 : n ≤ 9223372036854775807) (h : okq a b c d = true) (h0 : 0 ≤ x) (h2 : 0 ≤ n) (h3 : n ≤ 2097152) (h4 : x ≤ c) (h5 : n ≤ c - x) :
    Calls Try.prog 7 #[.agg #[.int .i64 a, .int .i64 b, .int .i64 c, .int .i64 d], .int .i64 x, .int .i64 n] w fun e w' => e = .returned (.bool true) ∧ Below w.heap.size w w' := by
  have HE := Lib.hid (erq_ok h)
  have HH := Lib.hid h
  have HF := Lib.hid (fits0 h)
  have hbnd : 1 ≤ a ∧ a ≤ 8 ∧ 1 ≤ c ∧ c ≤ 1048576 := by rw [okq_iff] at h; omega
  obtain ⟨ha1, ha2, hbnd1, hbnd2⟩ := hbnd
  clear h
  go_enter Try.func7, Try.ntmps7
  go_wp2_with fail
  refine (first_any _).mono ?_; rintro y w1 ⟨rfl, hb1⟩
  obtain ⟨hc1, hf1⟩ := bcell hb1
  have hz1 : w.heap.size < w1.heap.size := by have := hb1.size; simp only [World.size_alloc] at this; omega
  go_wp2_with fail
  refine (checkQuota_any _ _ _ _ _).mono ?_; rintro y w2 ⟨rfl, hb2⟩
  rw [HE.out]
  have hz2 : w.heap.size < w2.heap.size := by have := hb2.size; omega
  have HZ2 : Hid (Below w.heap.size w w2) :=
    ((((Below.refl _ _).alloc (Nat.le_refl _) _).trans (hb1.mono (by simp))).trans (hb2.mono (by omega)))
  obtain ⟨hc2, hf2⟩ := bcell hb2
  go_wp2_with fail
  refine (new_yes _ _ _ _ _ HH.out).mono ?_; rintro y w3 ⟨g, hg, rfl, hB3, hb3⟩
  have hz3 : w.heap.size < w3.heap.size := by have := hb3.size; omega
  have hX3 : Blk w3 w.heap.size 23 #[.int .i64 a, .int .i64 b, .int .i64 c, .int .i64 d] :=
    (((Blk.new w 23 _).below hb1 (by simp)).below hb2 hz1).below hb3 hz2
  have HX3 := Lib.hid hX3
  have HZ3 : Hid (Below w.heap.size w w3) := HZ2.out.trans (hb3.mono (by omega))
  have HB3 := Lib.hid hB3
  have HN : Hid (some w.heap.size ≠ some g) := by show some _ ≠ some _; intro e; injection e with e; omega
  clear hc1 hf1 hc2 hf2 hb1 hb2 hb3 hB3 hX3
  go_wp2_with fail
  refine (move_yes g _ _ _ _ _ _ x _ HB3.out HF.out ⟨hx1, hx2⟩ (by omega)).mono ?_; rintro y w4 ⟨rfl, hB4, hg4⟩
  have HF4 := Lib.hid (fits_move HF.out (n := x) (by omega))
  have HM : Hid (qMove 0 x = x) := by show _ = _; unfold qMove; omega
  rw [HM.out] at hB4
  rw [HM.out] at HF4
  have HB4 := Lib.hid hB4
  have HX4 := Lib.hid (HX3.out.grown hg4 HN.out)
  have h42 : w4.cell? ⟨w.heap.size, 2, none⟩ = some (.int .i64 c) := HX4.out.cell 2
  have HZ4 : Hid (Below w.heap.size w w4) := bel HZ3.out hg4 (by omega)
  clear hB4 hg4
  go_wp2_with fail
  refine (bytes_any g _ _ _ _ _ _ _ HB4.out).mono ?_; rintro y w4' ⟨rfl, rfl⟩
  go_wp2_with fail
  refine (move_yes g _ _ _ _ _ _ n _ HB4.out HF4.out ⟨hn1, hn2⟩ (by omega)).mono ?_; rintro y w5 ⟨rfl, hB5, hg5⟩
  have HF5 := Lib.hid (fits_move HF4.out (n := n) (by omega))
  have HM5 : Hid (qMove x n = x + n) := by show _ = _; unfold qMove; omega
  rw [HM5.out] at hB5 HF5
  have HB5 := Lib.hid hB5
  have HZ5 : Hid (Below w.heap.size w w5) := bel HZ4.out hg5 (by omega)
  clear hB5 hg5
  go_wp2_with fail
  refine (bytes_any g _ _ _ _ _ _ _ HB5.out).mono ?_; rintro y w5' ⟨rfl, rfl⟩
  go_wp2_with fail
  refine (move_yes g _ _ _ _ _ _ (-n) _ HB5.out HF5.out (by omega) (by omega)).mono ?_; rintro y w6 ⟨rfl, hB6, hg6⟩
  have HF6 := Lib.hid (fits_move HF5.out (n := -n) (by omega))
  have HM6 : Hid (qMove (x + n) (-n) = x) := by show _ = _; unfold qMove; omega
  rw [HM6.out] at hB6 HF6
  have HB6 := Lib.hid hB6
  have HZ6 : Hid (Below w.heap.size w w6) := bel HZ5.out hg6 (by omega)
  clear hB6 hg6
  go_wp2_with fail
  refine (bytes_any g _ _ _ _ _ _ _ HB6.out).mono ?_; rintro y w6' ⟨rfl, rfl⟩
  go_wp2_with fail
  refine (open_yes g _ _ _ _ _ _ _ HB6.out HF6.out (by omega)).mono ?_; rintro y w7 ⟨rfl, hB7, hg7⟩
  have HF7 := Lib.hid (fits_open HF6.out (by omega))
  have HB7 := Lib.hid hB7
  have HZ7 : Hid (Below w.heap.size w w7) := bel HZ6.out hg7 (by omega)
  clear hB7 hg7
  go_wp2_with fail
  refine (move_yes g _ _ _ _ _ _ n _ HB7.out HF7.out ⟨hn1, hn2⟩ (by omega)).mono ?_; rintro y w8 ⟨rfl, hB8, hg8⟩
  have HF8 := Lib.hid (fits_move HF7.out (n := n) (by omega))
  rw [HM5.out] at hB8 HF8
  have HB8 := Lib.hid hB8
  have HZ8 : Hid (Below w.heap.size w w8) := bel HZ7.out hg8 (by omega)
  clear hB8 hg8
  go_wp2_with fail
  refine (close_any g _ _ _ _ _ _ n _ HB8.out HF8.out ⟨hn1, hn2⟩).mono ?_; rintro y w9 ⟨rfl, hB9, hg9⟩
  have HM9 : Hid (qClose (x + n) n = x) := by show _ = _; unfold qClose; omega
  have HM9e : Hid (max (0 + 1 - 1 : Int) 0 = 0) := by show _ = _; omega
  rw [HM9.out, HM9e.out] at hB9
  have HB9 := Lib.hid hB9
  have HZ9 : Hid (Below w.heap.size w w9) := bel HZ8.out hg9 (by omega)
  clear hB9 hg9
  go_wp2_with fail
  refine (bytes_any g _ _ _ _ _ _ _ HB9.out).mono ?_; rintro y w9' ⟨rfl, rfl⟩
  go_wp2_with fail
  refine (cols_any g _ _ _ _ _ _ _ HB9.out).mono ?_; rintro y w9' ⟨rfl, rfl⟩
  go_wp2
  go_ret
  exact ⟨rfl, HZ9.out⟩
set_option maxHeartbeats 400000 in
theorem back_nn (a b c d x n : Int) (w : World) (hx1 : -9223372036854775808 ≤ x) (hx2 : x ≤ 9223372036854775807) (hn1 : -9223372036854775808 ≤ n) (hn2 : n ≤ 9223372036854775807) (h : okq a b c d = true) (h0 : 0 ≤ x) (h2 : 0 ≤ n) (h3 : n ≤ 2097152) (h4 : c < x) (h5 : c < n) :
    Calls Try.prog 7 #[.agg #[.int .i64 a, .int .i64 b, .int .i64 c, .int .i64 d], .int .i64 x, .int .i64 n] w fun e w' => e = .returned (.bool true) ∧ Below w.heap.size w w' := by
  have HE := Lib.hid (erq_ok h)
  have HH := Lib.hid h
  have HF := Lib.hid (fits0 h)
  have hbnd : 1 ≤ a ∧ a ≤ 8 ∧ 1 ≤ c ∧ c ≤ 1048576 := by rw [okq_iff] at h; omega
  obtain ⟨ha1, ha2, hbnd1, hbnd2⟩ := hbnd
  clear h
  go_enter Try.func7, Try.ntmps7
  go_wp2_with fail
  refine (first_any _).mono ?_; rintro y w1 ⟨rfl, hb1⟩
  obtain ⟨hc1, hf1⟩ := bcell hb1
  have hz1 : w.heap.size < w1.heap.size := by have := hb1.size; simp only [World.size_alloc] at this; omega
  go_wp2_with fail
  refine (checkQuota_any _ _ _ _ _).mono ?_; rintro y w2 ⟨rfl, hb2⟩
  rw [HE.out]
  have hz2 : w.heap.size < w2.heap.size := by have := hb2.size; omega
  have HZ2 : Hid (Below w.heap.size w w2) :=
    ((((Below.refl _ _).alloc (Nat.le_refl _) _).trans (hb1.mono (by simp))).trans (hb2.mono (by omega)))
  obtain ⟨hc2, hf2⟩ := bcell hb2
  go_wp2_with fail
  refine (new_yes _ _ _ _ _ HH.out).mono ?_; rintro y w3 ⟨g, hg, rfl, hB3, hb3⟩
  have hz3 : w.heap.size < w3.heap.size := by have := hb3.size; omega
  have hX3 : Blk w3 w.heap.size 23 #[.int .i64 a, .int .i64 b, .int .i64 c, .int .i64 d] :=
    (((Blk.new w 23 _).below hb1 (by simp)).below hb2 hz1).below hb3 hz2
  have HX3 := Lib.hid hX3
  have HZ3 : Hid (Below w.heap.size w w3) := HZ2.out.trans (hb3.mono (by omega))
  have HB3 := Lib.hid hB3
  have HN : Hid (some w.heap.size ≠ some g) := by show some _ ≠ some _; intro e; injection e with e; omega
  clear hc1 hf1 hc2 hf2 hb1 hb2 hb3 hB3 hX3
  go_wp2_with fail
  refine (move_no g _ _ _ _ _ _ x _ HB3.out HF.out ⟨hx1, hx2⟩ (by omega)).mono ?_; rintro y w4 ⟨rfl, hB4, hg4⟩
  have HF4 := HF
  have HB4 := Lib.hid hB4
  have HX4 := Lib.hid (HX3.out.grown hg4 HN.out)
  have h42 : w4.cell? ⟨w.heap.size, 2, none⟩ = some (.int .i64 c) := HX4.out.cell 2
  have HZ4 : Hid (Below w.heap.size w w4) := bel HZ3.out hg4 (by omega)
  clear hB4 hg4
  go_wp2_with fail
  refine (bytes_any g _ _ _ _ _ _ _ HB4.out).mono ?_; rintro y w4' ⟨rfl, rfl⟩
  go_wp2_with fail
  refine (move_no g _ _ _ _ _ _ n _ HB4.out HF4.out ⟨hn1, hn2⟩ (by omega)).mono ?_; rintro y w5 ⟨rfl, hB5, hg5⟩
  have HB5 := Lib.hid hB5
  have HX5 := Lib.hid (HX4.out.grown hg5 HN.out)
  have h52 : w5.cell? ⟨w.heap.size, 2, none⟩ = some (.int .i64 c) := HX5.out.cell 2
  have HZ5 : Hid (Below w.heap.size w w5) := bel HZ4.out hg5 (by omega)
  clear hB5 hg5
  go_wp2
  go_quiet ((first | (go_at_call 13; exact Calls.quiet_of_same ((bytes_any g _ _ _ _ _ _ _ (HB5.out.drewN _)).mono fun _ _ ⟨h1, h2⟩ => ⟨h1, h2.symm⟩)) | (go_at_call 14; exact Calls.quiet_of (room_any g _ _ _ _ _ _ _ (HB5.out.drewN _) HF4.out))))
  all_goals go_wp2
  all_goals go_ret
  all_goals exact ⟨rfl, below_drewN HZ5.out _⟩
set_option maxHeartbeats 400000 in
theorem back_ny (a b c d x n : Int) (w : World) (hx1 : -9223372036854775808 ≤ x) (hx2 : x ≤ 9223372036854775807) (hn1 : -9223372036854775808 ≤ n) (hn2 : n ≤ 9223372036854775807) (h : okq a b c d = true) (h0 : 0 ≤ x) (h2 : 0 ≤ n) (h3 : n ≤ 2097152) (h4 : c < x) (h5 : n ≤ c) :
    Calls Try.prog 7 #[.agg #[.int .i64 a, .int .i64 b, .int .i64 c, .int .i64 d], .int .i64 x, .int .i64 n] w fun e w' => e = .returned (.bool true) ∧ Below w.heap.size w w' := by
  have HE := Lib.hid (erq_ok h)
  have HH := Lib.hid h
  have HF := Lib.hid (fits0 h)
  have hbnd : 1 ≤ a ∧ a ≤ 8 ∧ 1 ≤ c ∧ c ≤ 1048576 := by rw [okq_iff] at h; omega
  obtain ⟨ha1, ha2, hbnd1, hbnd2⟩ := hbnd
  clear h
  go_enter Try.func7, Try.ntmps7
  go_wp2_with fail
  refine (first_any _).mono ?_; rintro y w1 ⟨rfl, hb1⟩
  obtain ⟨hc1, hf1⟩ := bcell hb1
  have hz1 : w.heap.size < w1.heap.size := by have := hb1.size; simp only [World.size_alloc] at this; omega
  go_wp2_with fail
  refine (checkQuota_any _ _ _ _ _).mono ?_; rintro y w2 ⟨rfl, hb2⟩
  rw [HE.out]
  have hz2 : w.heap.size < w2.heap.size := by have := hb2.size; omega
  have HZ2 : Hid (Below w.heap.size w w2) :=
    ((((Below.refl _ _).alloc (Nat.le_refl _) _).trans (hb1.mono (by simp))).trans (hb2.mono (by omega)))
  obtain ⟨hc2, hf2⟩ := bcell hb2
  go_wp2_with fail
  refine (new_yes _ _ _ _ _ HH.out).mono ?_; rintro y w3 ⟨g, hg, rfl, hB3, hb3⟩
  have hz3 : w.heap.size < w3.heap.size := by have := hb3.size; omega
  have hX3 : Blk w3 w.heap.size 23 #[.int .i64 a, .int .i64 b, .int .i64 c, .int .i64 d] :=
    (((Blk.new w 23 _).below hb1 (by simp)).below hb2 hz1).below hb3 hz2
  have HX3 := Lib.hid hX3
  have HZ3 : Hid (Below w.heap.size w w3) := HZ2.out.trans (hb3.mono (by omega))
  have HB3 := Lib.hid hB3
  have HN : Hid (some w.heap.size ≠ some g) := by show some _ ≠ some _; intro e; injection e with e; omega
  clear hc1 hf1 hc2 hf2 hb1 hb2 hb3 hB3 hX3
  go_wp2_with fail
  refine (move_no g _ _ _ _ _ _ x _ HB3.out HF.out ⟨hx1, hx2⟩ (by omega)).mono ?_; rintro y w4 ⟨rfl, hB4, hg4⟩
  have HF4 := HF
  have HB4 := Lib.hid hB4
  have HX4 := Lib.hid (HX3.out.grown hg4 HN.out)
  have h42 : w4.cell? ⟨w.heap.size, 2, none⟩ = some (.int .i64 c) := HX4.out.cell 2
  have HZ4 : Hid (Below w.heap.size w w4) := bel HZ3.out hg4 (by omega)
  clear hB4 hg4
  go_wp2_with fail
  refine (bytes_any g _ _ _ _ _ _ _ HB4.out).mono ?_; rintro y w4' ⟨rfl, rfl⟩
  go_wp2_with fail
  refine (move_yes g _ _ _ _ _ _ n _ HB4.out HF4.out ⟨hn1, hn2⟩ (by omega)).mono ?_; rintro y w5 ⟨rfl, hB5, hg5⟩
  have HF5 := Lib.hid (fits_move HF4.out (n := n) (by omega))
  have HM5 : Hid (qMove (0 : Int) n = (0 : Int) + n) := by show _ = _; unfold qMove; omega
  rw [HM5.out] at hB5 HF5
  have HB5 := Lib.hid hB5
  have HZ5 : Hid (Below w.heap.size w w5) := bel HZ4.out hg5 (by omega)
  clear hB5 hg5
  go_wp2_with fail
  refine (bytes_any g _ _ _ _ _ _ _ HB5.out).mono ?_; rintro y w5' ⟨rfl, rfl⟩
  go_wp2_with fail
  refine (move_yes g _ _ _ _ _ _ (-n) _ HB5.out HF5.out (by omega) (by omega)).mono ?_; rintro y w6 ⟨rfl, hB6, hg6⟩
  have HF6 := Lib.hid (fits_move HF5.out (n := -n) (by omega))
  have HM6 : Hid (qMove ((0 : Int) + n) (-n) = (0 : Int)) := by show _ = _; unfold qMove; omega
  rw [HM6.out] at hB6 HF6
  have HB6 := Lib.hid hB6
  have HZ6 : Hid (Below w.heap.size w w6) := bel HZ5.out hg6 (by omega)
  clear hB6 hg6
  go_wp2_with fail
  refine (bytes_any g _ _ _ _ _ _ _ HB6.out).mono ?_; rintro y w6' ⟨rfl, rfl⟩
  go_wp2_with fail
  refine (open_yes g _ _ _ _ _ _ _ HB6.out HF6.out (by omega)).mono ?_; rintro y w7 ⟨rfl, hB7, hg7⟩
  have HF7 := Lib.hid (fits_open HF6.out (by omega))
  have HB7 := Lib.hid hB7
  have HZ7 : Hid (Below w.heap.size w w7) := bel HZ6.out hg7 (by omega)
  clear hB7 hg7
  go_wp2_with fail
  refine (move_yes g _ _ _ _ _ _ n _ HB7.out HF7.out ⟨hn1, hn2⟩ (by omega)).mono ?_; rintro y w8 ⟨rfl, hB8, hg8⟩
  have HF8 := Lib.hid (fits_move HF7.out (n := n) (by omega))
  rw [HM5.out] at hB8 HF8
  have HB8 := Lib.hid hB8
  have HZ8 : Hid (Below w.heap.size w w8) := bel HZ7.out hg8 (by omega)
  clear hB8 hg8
  go_wp2_with fail
  refine (close_any g _ _ _ _ _ _ n _ HB8.out HF8.out ⟨hn1, hn2⟩).mono ?_; rintro y w9 ⟨rfl, hB9, hg9⟩
  have HM9 : Hid (qClose ((0 : Int) + n) n = (0 : Int)) := by show _ = _; unfold qClose; omega
  have HM9e : Hid (max (0 + 1 - 1 : Int) 0 = 0) := by show _ = _; omega
  rw [HM9.out, HM9e.out] at hB9
  have HB9 := Lib.hid hB9
  have HZ9 : Hid (Below w.heap.size w w9) := bel HZ8.out hg9 (by omega)
  clear hB9 hg9
  go_wp2_with fail
  refine (bytes_any g _ _ _ _ _ _ _ HB9.out).mono ?_; rintro y w9' ⟨rfl, rfl⟩
  go_wp2_with fail
  refine (cols_any g _ _ _ _ _ _ _ HB9.out).mono ?_; rintro y w9' ⟨rfl, rfl⟩
  go_wp2
  go_ret
  exact ⟨rfl, HZ9.out⟩

theorem wf_i64 {a : Int} (w : (Lit.int .i64 a).wf = true) : -9223372036854775808 ≤ a ∧ a ≤ 9223372036854775807 := by simpa [Lit.wf, IntKind.min, IntKind.max, IntKind.signed, IntKind.bits] using w
theorem quotaBack_walk (w : World) (a0 : Int) (w0 : (Lit.int .i64 a0).wf = true) (a1 : Int) (w1 : (Lit.int .i64 a1).wf = true) (a2 : Int) (w2 : (Lit.int .i64 a2).wf = true) (a3 : Int) (w3 : (Lit.int .i64 a3).wf = true) (a4 : Int) (w4 : (Lit.int .i64 a4).wf = true) (a5 : Int) (w5 : (Lit.int .i64 a5).wf = true) :
    Calls Try.prog 7 #[.agg #[.int .i64 a0, .int .i64 a1, .int .i64 a2, .int .i64 a3], .int .i64 a4, .int .i64 a5] w fun e w' => e = .returned (.bool true) ∧ Below w.heap.size w w' := by
  obtain ⟨x1, x2⟩ := wf_i64 w4
  obtain ⟨n1, n2⟩ := wf_i64 w5
  cases h : okq a0 a1 a2 a3
  · exact back_bad _ _ _ _ _ _ _ x1 x2 n1 n2 h
  · by_cases h1 : a4 < 0
    · exact back_x _ _ _ _ _ _ _ x1 x2 n1 n2 h h1
    by_cases h2 : a5 < 0
    · exact back_n _ _ _ _ _ _ _ x1 x2 n1 n2 h (by omega) h2
    by_cases h3 : 2097152 < a5
    · exact back_m _ _ _ _ _ _ _ x1 x2 n1 n2 h (by omega) (by omega) h3
    by_cases h4 : a4 ≤ a2
    · by_cases h5 : a2 - a4 < a5
      · exact back_hn _ _ _ _ _ _ _ x1 x2 n1 n2 h (by omega) (by omega) (by omega) h4 h5
      · exact back_hy _ _ _ _ _ _ _ x1 x2 n1 n2 h (by omega) (by omega) (by omega) h4 (by omega)
    · by_cases h5 : a2 < a5
      · exact back_nn _ _ _ _ _ _ _ x1 x2 n1 n2 h (by omega) (by omega) (by omega) (by omega) h5
      · exact back_ny _ _ _ _ _ _ _ x1 x2 n1 n2 h (by omega) (by omega) (by omega) (by omega) (by omega)
end Go.Proofs.Ytdojdebelmfnhaa
