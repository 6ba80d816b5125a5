/- How a budget is made, and of which quotas. -/
import Derived.Test.YtdojdebelmfnhaaQuo
import Derived.ChangeAlike
import Derived.Deep.Light
import Derived.Handy
namespace Go.Proofs.Ytdojdebelmfnhaa
open Go.RowKit
set_option linter.unusedVariables false
def wth (n m : Int) : Bool := decide (1 ≤ n ∧ n ≤ m)
theorem wth_any (n m : Int) (w : World) : Calls Try.prog 22 #[.int .i64 n, .int .i64 m] w fun x w' => x = .returned (.bool (wth n m)) ∧ w = w' := by
  by_cases h1 : 1 ≤ n
  · by_cases h2 : n ≤ m
    · have H : Hid (wth n m = true) := by show _ = _; simp [wth, h1, h2]
      go_enter Try.func22, Try.ntmps22
      go_wp2
      go_ret
      exact ⟨ret_bool H.out.symm, rfl⟩
    · have H : Hid (wth n m = false) := by show _ = _; simp [wth, h2]
      go_enter Try.func22, Try.ntmps22
      go_wp2
      go_ret
      exact ⟨ret_bool H.out.symm, rfl⟩
  · have H : Hid (wth n m = false) := by show _ = _; simp [wth, h1]
    go_enter Try.func22, Try.ntmps22
    go_wp2
    go_ret
    exact ⟨ret_bool H.out.symm, rfl⟩
def okq (a b c d : Int) : Bool := wth a 8 && wth b 16 && wth c 1048576 && wth d 64
def erq (a b c d : Int) : Int := if okq a b c d then 0 else 12
set_option maxHeartbeats 400000 in
theorem check_any (a b c d : Int) (w : World) : Calls Try.prog 11 #[.agg #[.int .i64 a, .int .i64 b, .int .i64 c, .int .i64 d]] w fun x w' => x = .returned (.int .i64 (erq a b c d)) ∧ Below w.heap.size w w' := by
  cases h1 : wth a 8
  · have H : Hid (erq a b c d = 12) := by show _ = _; simp [erq, okq, h1]
    go_enter Try.func11, Try.ntmps11
    go_wp2_with (go_at_call 22; refine (wth_any _ _ _).mono ?_; rintro e w' ⟨rfl, rfl⟩)
    go_ret
    exact ⟨ret_i64 H.out.symm, by go_grown⟩
  · cases h2 : wth b 16
    · have H : Hid (erq a b c d = 12) := by show _ = _; simp [erq, okq, h1, h2]
      go_enter Try.func11, Try.ntmps11
      go_wp2_with (go_at_call 22; refine (wth_any _ _ _).mono ?_; rintro e w' ⟨rfl, rfl⟩)
      go_ret
      exact ⟨ret_i64 H.out.symm, by go_grown⟩
    · cases h3 : wth c 1048576
      · have H : Hid (erq a b c d = 12) := by show _ = _; simp [erq, okq, h1, h2, h3]
        go_enter Try.func11, Try.ntmps11
        go_wp2_with (go_at_call 22; refine (wth_any _ _ _).mono ?_; rintro e w' ⟨rfl, rfl⟩)
        go_ret
        exact ⟨ret_i64 H.out.symm, by go_grown⟩
      · cases h4 : wth d 64
        all_goals
          have H := Lib.hid (show erq a b c d = if wth d 64 then 0 else 12 by simp [erq, okq, h1, h2, h3])
          rw [h4] at H
          go_enter Try.func11, Try.ntmps11
          go_wp2_with (go_at_call 22; refine (wth_any _ _ _).mono ?_; rintro e w' ⟨rfl, rfl⟩)
          go_ret
          exact ⟨ret_i64 (by rw [H.out]; rfl), by go_grown⟩
theorem erq_eq (a b c d : Int) : erq a b c d = if (1 ≤ a ∧ a ≤ 8) ∧ (1 ≤ b ∧ b ≤ 16) ∧ (1 ≤ c ∧ c ≤ 1048576) ∧ (1 ≤ d ∧ d ≤ 64) then 0 else 12 := by
  simp [erq, okq, wth, and_assoc]
theorem bcell {W w1 : World} (hb : Below W.heap.size W w1) : (∀ b o, b < W.heap.size → w1.cell? ⟨b, o, none⟩ = W.cell? ⟨b, o, none⟩) ∧ (∀ b o, b < W.heap.size → w1.frozen? ⟨b, o, none⟩ = W.frozen? ⟨b, o, none⟩) :=
  ⟨fun b o h => hb.cell (p := ⟨b, o, none⟩) h, fun b o h => hb.frozen (p := ⟨b, o, none⟩) h⟩
set_option maxHeartbeats 400000 in
theorem checkQuota_any (a b c d : Int) (w : World) : Calls Try.prog 9 #[.agg #[.int .i64 a, .int .i64 b, .int .i64 c, .int .i64 d]] w fun x w' => x = .returned (.int .i64 (erq a b c d)) ∧ Below w.heap.size w w' := by
  go_enter Try.func9, Try.ntmps9
  go_wp2
  all_goals go_ret
  all_goals refine ⟨ret_i64 ?_, by go_grown⟩
  all_goals go_light
  all_goals rw [erq_eq]
  all_goals split
  all_goals first | rfl | (exfalso; omega)
theorem okq_iff (a b c d : Int) : okq a b c d = true ↔ (1 ≤ a ∧ a ≤ 8) ∧ (1 ≤ b ∧ b ≤ 16) ∧ (1 ≤ c ∧ c ≤ 1048576) ∧ (1 ≤ d ∧ d ≤ 64) := by
  simp [okq, wth, and_assoc]
theorem erq_ok {a b c d : Int} (h : okq a b c d = true) : erq a b c d = 0 := by simp [erq, h]
theorem erq_no {a b c d : Int} (h : okq a b c d = false) : erq a b c d = 12 := by simp [erq, h]

set_option maxHeartbeats 400000 in
theorem new_no (a b c d : Int) (w : World) (h : okq a b c d = false) : Calls Try.prog 10 #[.agg #[.int .i64 a, .int .i64 b, .int .i64 c, .int .i64 d]] w fun x w' => x = .returned (.tuple #[.pointer none, .int .i64 12]) ∧ Below w.heap.size w w' := by
  have H := Lib.hid (erq_no h)
  clear h
  go_enter Try.func10, Try.ntmps10
  go_wp2_with fail
  refine (check_any a b c d _).mono ?_; rintro x w1 ⟨rfl, hb⟩
  rw [H.out]
  obtain ⟨hc, hf⟩ := bcell hb
  go_wp2
  go_ret2
  exact ⟨rfl, ((Below.refl _ _).alloc (Nat.le_refl _) _).trans (hb.mono (by simp))⟩
set_option maxHeartbeats 400000 in
theorem new_yes (a b c d : Int) (w : World) (h : okq a b c d = true) : Calls Try.prog 10 #[.agg #[.int .i64 a, .int .i64 b, .int .i64 c, .int .i64 d]] w fun x w' => ∃ g, w.heap.size ≤ g ∧ x = .returned (.tuple #[.pointer (some ⟨g, 0, none⟩), .int .i64 0]) ∧ B6 w' g 45 a b c d 0 0 ∧ Below w.heap.size w w' := by
  have H := Lib.hid (erq_ok h)
  clear h
  go_enter Try.func10, Try.ntmps10
  go_wp2_with fail
  refine (check_any a b c d _).mono ?_; rintro x w1 ⟨rfl, hb⟩
  rw [H.out]
  obtain ⟨hc, hf⟩ := bcell hb
  have hz := Lib.hid hb.size
  go_wp2
  go_ret2
  have hz' : w.heap.size ≤ w1.heap.size := by have := hz.out; simp at this; omega
  exact ⟨w1.heap.size, hz', rfl, Blk.new _ _ _, (((Below.refl _ _).alloc (Nat.le_refl _) _).trans (hb.mono (by simp))).alloc hz' _⟩

theorem bel {w w1 w2 : World} {g : Nat} (hb : Below w.heap.size w w1) (hg : w1.grownBy w2 (some g)) (h : w.heap.size ≤ g) : Below w.heap.size w w2 :=
  hb.grown hg hb.size (fun k e => by injection e with e; omega)
theorem fits0 {a b c d : Int} (h : okq a b c d = true) : Fits a b c d 0 0 := by
  rw [okq_iff] at h; exact ⟨by omega, by omega, by omega, by omega, by omega, by omega, by omega, by omega⟩
theorem fits_open {a b c d e f : Int} (h : Fits a b c d e f) (hl : e < a) : Fits a b c d (e + 1) f := ⟨h.1, h.2, h.3, h.4, by have := h.5; omega, by omega, h.7, h.8⟩
theorem fits_close {a b c d e f : Int} (h : Fits a b c d e f) (n : Int) : Fits a b c d (max (e - 1) 0) (qClose f n) := by
  obtain ⟨h1, h2, h3, h4, h5, h6, h7, h8⟩ := h
  unfold qClose
  exact ⟨h1, h2, h3, h4, by omega, by omega, by omega, by omega⟩
theorem fits_move {a b c d e f n : Int} (h : Fits a b c d e f) (hl : ¬ c - f < n) : Fits a b c d e (qMove f n) := by
  obtain ⟨h1, h2, h3, h4, h5, h6, h7, h8⟩ := h
  unfold qMove
  exact ⟨h1, h2, h3, h4, by omega, by omega, by omega, by omega⟩
end Go.Proofs.Ytdojdebelmfnhaa
