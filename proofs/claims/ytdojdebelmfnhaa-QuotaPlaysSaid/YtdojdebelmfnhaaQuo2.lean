/- The parts of quota that count bytes. -/
import Derived.Test.YtdojdebelmfnhaaQuo
import Derived.ChangeAlike
import Derived.Deep.Light
namespace Go.Proofs.Ytdojdebelmfnhaa
open Go.RowKit
set_option linter.unusedVariables false
theorem two_only (w : World) (g : Nat) (i j : Nat) (x y : Value) : w.grownBy ((w.setCell ⟨g, i, none⟩ x).setCell ⟨g, j, none⟩ y).drew (some g) := by
  have h1 : w.grownBy (w.setCell ⟨g, i, none⟩ x) (some g) := only_setCell (World.grownBy.refl _ _) (.inl rfl) _
  have h2 : w.grownBy ((w.setCell ⟨g, i, none⟩ x).setCell ⟨g, j, none⟩ y) (some g) := only_setCell h1 (.inl rfl) _
  exact only_drew h2
theorem one_only (w : World) (g : Nat) (i : Nat) (k : Nat) (x : Value) : w.grownBy ((w.drewN k).setCell ⟨g, i, none⟩ x) (some g) := by
  have h1 : w.grownBy (w.drewN k) (some g) := only_drewN (World.grownBy.refl _ _) _
  exact only_setCell h1 (.inl rfl) _
theorem one_only0 (w : World) (g : Nat) (i : Nat) (x : Value) : w.grownBy (w.setCell ⟨g, i, none⟩ x) (some g) := by
  exact only_setCell (World.grownBy.refl _ _) (.inl rfl) _
theorem clo_eq (f n : Int) (hf : 0 ≤ f) : (f - if f < if n < 0 then 0 else n then f else if n < 0 then 0 else n) = qClose f n := by
  unfold qClose
  by_cases h : n < 0
  · simp only [h, if_true]
    by_cases h2 : f < 0
    · omega
    · rw [if_neg h2]; omega
  · simp only [h, if_false]
    by_cases h2 : f < n
    · rw [if_pos h2]; omega
    · rw [if_neg h2]; omega
set_option maxHeartbeats 400000 in
theorem close_any (g : Nat) (a b c d e f n : Int) (w : World) (h : B6 w g 45 a b c d e f) (hf : Fits a b c d e f) (hn : -9223372036854775808 ≤ n ∧ n ≤ 9223372036854775807) :
    Calls Try.prog 17 #[.pointer (some ⟨g, 0, none⟩), .int .i64 n] w fun x w' => x = .returned (.tuple #[]) ∧ B6 w' g 45 a b c d (max (e - 1) 0) (qClose f n) ∧ w.grownBy w' (some g) := by
  have h4 := h.c4
  have h5 := h.c5
  have hz := h.frozen 4
  have hz5 := h.frozen 5
  obtain ⟨f1, f2, f3, f4, f5, f6, f7, f8⟩ := hf
  obtain ⟨n1, n2⟩ := hn
  have H5 := Lib.hid h
  clear h
  go_enter Try.func17, Try.ntmps17
  go_wp2
  all_goals go_region
  all_goals go_end0
  all_goals refine ⟨rfl, B6.two H5.out _ _ ?_ ?_, two_only _ _ _ _ _ _⟩
  all_goals go_light
  all_goals first | exact clo_eq f n f7 | omega

theorem rclo_eq (f n c : Int) (hf : 0 ≤ f) (hc : f ≤ c) (hp : 0 < n) : (if (f - if c < n then c else n) < 0 then 0 else f - if c < n then c else n) = qClose f n := by
  unfold qClose
  by_cases h : c < n
  · simp only [h, if_true]
    by_cases h2 : f - c < 0
    · rw [if_pos h2]; omega
    · rw [if_neg h2]; omega
  · simp only [h, if_false]
    by_cases h2 : f - n < 0
    · rw [if_pos h2]; omega
    · rw [if_neg h2]; omega

set_option maxHeartbeats 400000 in
theorem rclose_pos (g : Nat) (a b c d e f n : Int) (w : World) (h : B6 w g 35 a b c d e f) (hf : Fits a b c d e f) (hn : -9223372036854775808 ≤ n ∧ n ≤ 9223372036854775807) (hp : 0 < n) :
    Calls Try.prog 18 #[.pointer (some ⟨g, 0, none⟩), .int .i64 n] w fun x w' => x = .returned (.tuple #[]) ∧ B6 w' g 35 a b c d (max (e - 1) 0) (qClose f n) ∧ w.grownBy w' (some g) := by
  have h2 := h.c2
  have h4 := h.c4
  have h5 := h.c5
  have hz := h.frozen 4
  have hz5 := h.frozen 5
  obtain ⟨f1, f2, f3, f4, f5, f6, f7, f8⟩ := hf
  obtain ⟨n1, n2⟩ := hn
  have H5 := Lib.hid h
  clear h
  go_enter Try.func18, Try.ntmps18
  go_wp2
  all_goals go_region
  all_goals go_end0
  all_goals refine ⟨rfl, B6.two H5.out _ _ ?_ ?_, two_only _ _ _ _ _ _⟩
  all_goals go_light
  all_goals first | exact rclo_eq f n c f7 f8 hp | omega
set_option maxHeartbeats 400000 in
theorem rclose_neg (g : Nat) (a b c d e f n : Int) (w : World) (h : B6 w g 35 a b c d e f) (hf : Fits a b c d e f) (hp : n ≤ 0) :
    Calls Try.prog 18 #[.pointer (some ⟨g, 0, none⟩), .int .i64 n] w fun x w' => x = .returned (.tuple #[]) ∧ B6 w' g 35 a b c d (max (e - 1) 0) (qClose f n) ∧ w.grownBy w' (some g) := by
  have h4 := h.c4
  have hz := h.frozen 4
  obtain ⟨f1, f2, f3, f4, f5, f6, f7, f8⟩ := hf
  have H5 := Lib.hid h
  have HQ : Hid (qClose f n = f) := by unfold qClose; show _ = _; omega
  clear h
  go_enter Try.func18, Try.ntmps18
  go_wp2
  all_goals go_end0
  all_goals rw [HQ.out]
  all_goals refine ⟨rfl, B6.one4 H5.out _ ?_, one_only0 _ _ _ _⟩
  all_goals go_light
  all_goals omega
set_option maxHeartbeats 400000 in
theorem move_no (g : Nat) (a b c d e f n : Int) (w : World) (h : B6 w g 45 a b c d e f) (hf : Fits a b c d e f) (hn : -9223372036854775808 ≤ n ∧ n ≤ 9223372036854775807) (hr : c - f < n) :
    Calls Try.prog 19 #[.pointer (some ⟨g, 0, none⟩), .int .i64 n] w fun x w' => x = .returned (.bool false) ∧ B6 w' g 45 a b c d e f ∧ w.grownBy w' (some g) := by
  obtain ⟨n1, n2⟩ := hn
  have H5 := Lib.hid h
  have HF := Lib.hid hf
  clear h hf
  go_enter Try.func19, Try.ntmps19
  go_wp2_with fail
  refine (room_any g a b c d e f _ H5.out HF.out).mono ?_; rintro x w' ⟨rfl, k, rfl⟩
  go_wp2
  go_ret
  exact ⟨rfl, H5.out.drewN _, only_drewN (World.grownBy.refl _ _) _⟩

set_option maxHeartbeats 400000 in
theorem move_yes (g : Nat) (a b c d e f n : Int) (w : World) (h : B6 w g 45 a b c d e f) (hf : Fits a b c d e f) (hn : -9223372036854775808 ≤ n ∧ n ≤ 9223372036854775807) (hr : ¬ c - f < n) :
    Calls Try.prog 19 #[.pointer (some ⟨g, 0, none⟩), .int .i64 n] w fun x w' => x = .returned (.bool true) ∧ B6 w' g 45 a b c d e (qMove f n) ∧ w.grownBy w' (some g) := by
  obtain ⟨n1, n2⟩ := hn
  have h5 := h.c5
  have hz5 := h.frozen 5
  have H5 := Lib.hid h
  have HF := Lib.hid hf
  obtain ⟨f1, f2, f3, f4, f5, f6, f7, f8⟩ := hf
  clear h
  go_enter Try.func19, Try.ntmps19
  go_wp2_with fail
  refine (room_any g a b c d e f _ H5.out HF.out).mono ?_; rintro x w' ⟨rfl, k, rfl⟩
  go_wp2
  all_goals go_ret
  all_goals refine ⟨rfl, (B6.drewN H5.out _).one5 _ ?_, one_only _ _ _ _ _⟩
  all_goals go_light
  all_goals unfold qMove
  all_goals omega

set_option maxHeartbeats 400000 in
theorem rmove_no (g : Nat) (a b c d e f n : Int) (w : World) (h : B6 w g 35 a b c d e f) (hf : Fits a b c d e f) (hn : -9223372036854775808 ≤ n ∧ n ≤ 9223372036854775807) (hr : c - f < n) :
    Calls Try.prog 20 #[.pointer (some ⟨g, 0, none⟩), .int .i64 n] w fun x w' => x = .returned (.bool false) ∧ B6 w' g 35 a b c d e f ∧ w.grownBy w' (some g) := by
  obtain ⟨n1, n2⟩ := hn
  have h2 := h.c2
  have h5 := h.c5
  have H5 := Lib.hid h
  obtain ⟨f1, f2, f3, f4, f5, f6, f7, f8⟩ := hf
  clear h
  go_enter Try.func20, Try.ntmps20
  go_wp2
  go_quiet (fail)
  go_wp2
  go_ret
  exact ⟨rfl, H5.out.drewN _, only_drewN (World.grownBy.refl _ _) _⟩

set_option maxHeartbeats 400000 in
theorem rmove_yes (g : Nat) (a b c d e f n : Int) (w : World) (h : B6 w g 35 a b c d e f) (hf : Fits a b c d e f) (hn : -9223372036854775808 ≤ n ∧ n ≤ 9223372036854775807) (hr : ¬ c - f < n) :
    Calls Try.prog 20 #[.pointer (some ⟨g, 0, none⟩), .int .i64 n] w fun x w' => x = .returned (.bool true) ∧ B6 w' g 35 a b c d e (qMove f n) ∧ w.grownBy w' (some g) := by
  obtain ⟨n1, n2⟩ := hn
  have h2 := h.c2
  have h5 := h.c5
  have hz5 := h.frozen 5
  have H5 := Lib.hid h
  obtain ⟨f1, f2, f3, f4, f5, f6, f7, f8⟩ := hf
  clear h
  go_enter Try.func20, Try.ntmps20
  go_wp2
  go_quiet (fail)
  go_wp2
  go_region
  all_goals go_wp2
  all_goals go_ret
  all_goals refine ⟨rfl, (B6.drewN H5.out _).one5 _ ?_, one_only _ _ _ _ _⟩
  all_goals go_light
  all_goals unfold qMove
  all_goals omega
end Go.Proofs.Ytdojdebelmfnhaa
