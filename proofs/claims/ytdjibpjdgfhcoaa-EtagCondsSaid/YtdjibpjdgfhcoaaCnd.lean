/- Conditions out of texts. -/
import Derived.Test.YtdjibpjdgfhcoaaMay
import Derived.Test.YtdjibpjdgfhcoaaPrs
namespace Go.Proofs.Ytdjibpjdgfhcoaa
open Go.RowKit
set_option linter.unusedVariables false
def condS (m n : ByteArray) : Int × Int × Int := if m.toList = [] ∧ n.toList = [] then (0, 0, 0) else if m.toList = [42] ∧ n.toList = [] then (2, 0, 0) else if m.toList = [] ∧ n.toList = [42] then (1, 0, 0) else if (prs m).2 = true ∧ n.toList = [] then (3, (prs m).1, 0) else (0, 0, 1)
theorem size_toList (m : ByteArray) : m.size = m.toList.length := by rw [ByteArray.toList_eq, Lib.size_eq]
theorem ret_cond {a b c d e f : Int} (h : (a, b, c) = (d, e, f)) : Ending.returned (.tuple #[.agg #[.int .i64 d, .int .i64 e], .int .i64 f]) = Ending.returned (.tuple #[.agg #[.int .i64 a, .int .i64 b], .int .i64 c]) := by
  injection h with h1 h2
  injection h2 with h2 h3
  subst h1 h2 h3; rfl
theorem cls (m : ByteArray) : m.toList = [] ∨ m.toList = [42] ∨ (m.toList.isEmpty = false ∧ (m.toList == [42]) = false ∧ ¬ m.toList = [] ∧ ¬ m.toList = [42]) := by
  by_cases h : m.toList = []
  · exact .inl h
  by_cases h2 : m.toList = [42]
  · exact .inr (.inl h2)
  · exact .inr (.inr ⟨by cases e : m.toList with | nil => exact absurd e h | cons => rfl, by simpa using h2, h, h2⟩)
theorem prs_1 {m : ByteArray} (h : m.toList = [] ∨ m.toList = [42]) : prs m = (0, false) := by
  refine prs_short ?_
  rw [size_toList]
  rcases h with h | h <;> rw [h] <;> decide
set_option maxHeartbeats 800000 in
theorem cond_any (m n : ByteArray) (w : World) (hm : m.size ≤ 1000) : Calls Try.prog 10 #[.string m, .string n] w fun e w' => e = .returned (.tuple #[.agg #[.int .i64 (condS m n).1, .int .i64 (condS m n).2.1], .int .i64 (condS m n).2.2]) ∧ Below w.heap.size w w' := by
  have C := Lib.hid (fun W => parse_any m W hm)
  rcases cls m with hm0 | hm0 | ⟨hm0, hm1, hm2, hm3⟩
  · rcases cls n with hn0 | hn0 | ⟨hn0, hn1, hn2, hn3⟩
    · have hp : prs m = (0, false) := prs_1 (.inl hm0)
      have HV : Hid (condS m n = (0, 0, 0)) := by show _ = _; unfold condS; simp_all
      simp only [hp] at C
      clear hp
      go_enter Try.func10, Try.ntmps10
      go_wp2
      refine bodyPost_ret (v := .tuple #[.agg #[.int .i64 0, .int .i64 0], .int .i64 0]) (by simp [results, Try.results10, go_sem]) rfl ⟨ret_cond HV.out, ?_⟩
      go_grown
    · have hp : prs m = (0, false) := prs_1 (.inl hm0)
      have HV : Hid (condS m n = (1, 0, 0)) := by show _ = _; unfold condS; simp_all
      simp only [hp] at C
      clear hp
      go_enter Try.func10, Try.ntmps10
      go_wp2
      refine bodyPost_ret (v := .tuple #[.agg #[.int .i64 1, .int .i64 0], .int .i64 0]) (by simp [results, Try.results10, go_sem]) rfl ⟨ret_cond HV.out, ?_⟩
      go_grown
    · have hp : prs m = (0, false) := prs_1 (.inl hm0)
      have HV : Hid (condS m n = (0, 0, 1)) := by show _ = _; unfold condS; simp_all
      simp only [hp] at C
      clear hp
      go_enter Try.func10, Try.ntmps10
      go_wp2_with fail
      refine (C.out _).mono ?_; rintro e w' ⟨rfl, rfl⟩
      go_wp2
      refine bodyPost_ret (v := .tuple #[.agg #[.int .i64 0, .int .i64 0], .int .i64 1]) (by simp [results, Try.results10, go_sem]) rfl ⟨ret_cond HV.out, ?_⟩
      go_grown
  · rcases cls n with hn0 | hn0 | ⟨hn0, hn1, hn2, hn3⟩
    · have hp : prs m = (0, false) := prs_1 (.inr hm0)
      have HV : Hid (condS m n = (2, 0, 0)) := by show _ = _; unfold condS; simp_all
      simp only [hp] at C
      clear hp
      go_enter Try.func10, Try.ntmps10
      go_wp2
      refine bodyPost_ret (v := .tuple #[.agg #[.int .i64 2, .int .i64 0], .int .i64 0]) (by simp [results, Try.results10, go_sem]) rfl ⟨ret_cond HV.out, ?_⟩
      go_grown
    · have hp : prs m = (0, false) := prs_1 (.inr hm0)
      have HV : Hid (condS m n = (0, 0, 1)) := by show _ = _; unfold condS; simp_all
      simp only [hp] at C
      clear hp
      go_enter Try.func10, Try.ntmps10
      go_wp2_with fail
      refine (C.out _).mono ?_; rintro e w' ⟨rfl, rfl⟩
      go_wp2
      refine bodyPost_ret (v := .tuple #[.agg #[.int .i64 0, .int .i64 0], .int .i64 1]) (by simp [results, Try.results10, go_sem]) rfl ⟨ret_cond HV.out, ?_⟩
      go_grown
    · have hp : prs m = (0, false) := prs_1 (.inr hm0)
      have HV : Hid (condS m n = (0, 0, 1)) := by show _ = _; unfold condS; simp_all
      simp only [hp] at C
      clear hp
      go_enter Try.func10, Try.ntmps10
      go_wp2_with fail
      refine (C.out _).mono ?_; rintro e w' ⟨rfl, rfl⟩
      go_wp2
      refine bodyPost_ret (v := .tuple #[.agg #[.int .i64 0, .int .i64 0], .int .i64 1]) (by simp [results, Try.results10, go_sem]) rfl ⟨ret_cond HV.out, ?_⟩
      go_grown
  · rcases cls n with hn0 | hn0 | ⟨hn0, hn1, hn2, hn3⟩
    · obtain ⟨x, ok, hp⟩ : ∃ x ok, prs m = (x, ok) := ⟨_, _, rfl⟩
      cases ok
      · have HV : Hid (condS m n = (0, 0, 1)) := by show _ = _; unfold condS; simp_all
        simp only [hp] at C
        clear hp
        go_enter Try.func10, Try.ntmps10
        go_wp2_with fail
        refine (C.out _).mono ?_; rintro e w' ⟨rfl, rfl⟩
        go_wp2
        refine bodyPost_ret (v := .tuple #[.agg #[.int .i64 0, .int .i64 0], .int .i64 1]) (by simp [results, Try.results10, go_sem]) rfl ⟨ret_cond HV.out, ?_⟩
        go_grown
      · have HV : Hid (condS m n = (3, x, 0)) := by show _ = _; unfold condS; simp_all
        simp only [hp] at C
        clear hp
        go_enter Try.func10, Try.ntmps10
        go_wp2_with fail
        refine (C.out _).mono ?_; rintro e w' ⟨rfl, rfl⟩
        go_wp2
        refine bodyPost_ret (v := .tuple #[.agg #[.int .i64 3, .int .i64 x], .int .i64 0]) (by simp [results, Try.results10, go_sem]) rfl ⟨ret_cond HV.out, ?_⟩
        go_grown
    · obtain ⟨x, ok, hp⟩ : ∃ x ok, prs m = (x, ok) := ⟨_, _, rfl⟩
      cases ok
      · have HV : Hid (condS m n = (0, 0, 1)) := by show _ = _; unfold condS; simp_all
        simp only [hp] at C
        clear hp
        go_enter Try.func10, Try.ntmps10
        go_wp2_with fail
        refine (C.out _).mono ?_; rintro e w' ⟨rfl, rfl⟩
        go_wp2
        refine bodyPost_ret (v := .tuple #[.agg #[.int .i64 0, .int .i64 0], .int .i64 1]) (by simp [results, Try.results10, go_sem]) rfl ⟨ret_cond HV.out, ?_⟩
        go_grown
      · have HV : Hid (condS m n = (0, 0, 1)) := by show _ = _; unfold condS; simp_all
        simp only [hp] at C
        clear hp
        go_enter Try.func10, Try.ntmps10
        go_wp2_with fail
        refine (C.out _).mono ?_; rintro e w' ⟨rfl, rfl⟩
        go_wp2
        refine bodyPost_ret (v := .tuple #[.agg #[.int .i64 0, .int .i64 0], .int .i64 1]) (by simp [results, Try.results10, go_sem]) rfl ⟨ret_cond HV.out, ?_⟩
        go_grown
    · obtain ⟨x, ok, hp⟩ : ∃ x ok, prs m = (x, ok) := ⟨_, _, rfl⟩
      cases ok
      · have HV : Hid (condS m n = (0, 0, 1)) := by show _ = _; unfold condS; simp_all
        simp only [hp] at C
        clear hp
        go_enter Try.func10, Try.ntmps10
        go_wp2_with fail
        refine (C.out _).mono ?_; rintro e w' ⟨rfl, rfl⟩
        go_wp2
        refine bodyPost_ret (v := .tuple #[.agg #[.int .i64 0, .int .i64 0], .int .i64 1]) (by simp [results, Try.results10, go_sem]) rfl ⟨ret_cond HV.out, ?_⟩
        go_grown
      · have HV : Hid (condS m n = (0, 0, 1)) := by show _ = _; unfold condS; simp_all
        simp only [hp] at C
        clear hp
        go_enter Try.func10, Try.ntmps10
        go_wp2_with fail
        refine (C.out _).mono ?_; rintro e w' ⟨rfl, rfl⟩
        go_wp2
        refine bodyPost_ret (v := .tuple #[.agg #[.int .i64 0, .int .i64 0], .int .i64 1]) (by simp [results, Try.results10, go_sem]) rfl ⟨ret_cond HV.out, ?_⟩
        go_grown
set_option maxHeartbeats 800000 in
theorem rcond_any (m n : ByteArray) (w : World) (hm : m.size ≤ 1000) : Calls Try.prog 11 #[.string m, .string n] w fun e w' => e = .returned (.tuple #[.agg #[.int .i64 (condS m n).1, .int .i64 (condS m n).2.1], .int .i64 (condS m n).2.2]) ∧ Below w.heap.size w w' := by
  have C := Lib.hid (fun W => version_any m W hm)
  rcases cls m with hm0 | hm0 | ⟨hm0, hm1, hm2, hm3⟩
  · rcases cls n with hn0 | hn0 | ⟨hn0, hn1, hn2, hn3⟩
    · have hp : prs m = (0, false) := prs_1 (.inl hm0)
      have HV : Hid (condS m n = (0, 0, 0)) := by show _ = _; unfold condS; simp_all
      simp only [hp] at C
      clear hp
      go_enter Try.func11, Try.ntmps11
      go_wp2_with fail
      refine (C.out _).mono ?_; rintro e w' ⟨rfl, rfl⟩
      go_wp2
      refine bodyPost_ret (v := .tuple #[.agg #[.int .i64 0, .int .i64 0], .int .i64 0]) (by simp [results, Try.results11, go_sem]) rfl ⟨ret_cond HV.out, ?_⟩
      go_grown
    · have hp : prs m = (0, false) := prs_1 (.inl hm0)
      have HV : Hid (condS m n = (1, 0, 0)) := by show _ = _; unfold condS; simp_all
      simp only [hp] at C
      clear hp
      go_enter Try.func11, Try.ntmps11
      go_wp2_with fail
      refine (C.out _).mono ?_; rintro e w' ⟨rfl, rfl⟩
      go_wp2
      refine bodyPost_ret (v := .tuple #[.agg #[.int .i64 1, .int .i64 0], .int .i64 0]) (by simp [results, Try.results11, go_sem]) rfl ⟨ret_cond HV.out, ?_⟩
      go_grown
    · have hp : prs m = (0, false) := prs_1 (.inl hm0)
      have HV : Hid (condS m n = (0, 0, 1)) := by show _ = _; unfold condS; simp_all
      simp only [hp] at C
      clear hp
      go_enter Try.func11, Try.ntmps11
      go_wp2_with fail
      refine (C.out _).mono ?_; rintro e w' ⟨rfl, rfl⟩
      go_wp2
      refine bodyPost_ret (v := .tuple #[.agg #[.int .i64 0, .int .i64 0], .int .i64 1]) (by simp [results, Try.results11, go_sem]) rfl ⟨ret_cond HV.out, ?_⟩
      go_grown
  · rcases cls n with hn0 | hn0 | ⟨hn0, hn1, hn2, hn3⟩
    · have hp : prs m = (0, false) := prs_1 (.inr hm0)
      have HV : Hid (condS m n = (2, 0, 0)) := by show _ = _; unfold condS; simp_all
      simp only [hp] at C
      clear hp
      go_enter Try.func11, Try.ntmps11
      go_wp2_with fail
      refine (C.out _).mono ?_; rintro e w' ⟨rfl, rfl⟩
      go_wp2
      refine bodyPost_ret (v := .tuple #[.agg #[.int .i64 2, .int .i64 0], .int .i64 0]) (by simp [results, Try.results11, go_sem]) rfl ⟨ret_cond HV.out, ?_⟩
      go_grown
    · have hp : prs m = (0, false) := prs_1 (.inr hm0)
      have HV : Hid (condS m n = (0, 0, 1)) := by show _ = _; unfold condS; simp_all
      simp only [hp] at C
      clear hp
      go_enter Try.func11, Try.ntmps11
      go_wp2_with fail
      refine (C.out _).mono ?_; rintro e w' ⟨rfl, rfl⟩
      go_wp2
      refine bodyPost_ret (v := .tuple #[.agg #[.int .i64 0, .int .i64 0], .int .i64 1]) (by simp [results, Try.results11, go_sem]) rfl ⟨ret_cond HV.out, ?_⟩
      go_grown
    · have hp : prs m = (0, false) := prs_1 (.inr hm0)
      have HV : Hid (condS m n = (0, 0, 1)) := by show _ = _; unfold condS; simp_all
      simp only [hp] at C
      clear hp
      go_enter Try.func11, Try.ntmps11
      go_wp2_with fail
      refine (C.out _).mono ?_; rintro e w' ⟨rfl, rfl⟩
      go_wp2
      refine bodyPost_ret (v := .tuple #[.agg #[.int .i64 0, .int .i64 0], .int .i64 1]) (by simp [results, Try.results11, go_sem]) rfl ⟨ret_cond HV.out, ?_⟩
      go_grown
  · rcases cls n with hn0 | hn0 | ⟨hn0, hn1, hn2, hn3⟩
    · obtain ⟨x, ok, hp⟩ : ∃ x ok, prs m = (x, ok) := ⟨_, _, rfl⟩
      cases ok
      · have HV : Hid (condS m n = (0, 0, 1)) := by show _ = _; unfold condS; simp_all
        simp only [hp] at C
        clear hp
        go_enter Try.func11, Try.ntmps11
        go_wp2_with fail
        refine (C.out _).mono ?_; rintro e w' ⟨rfl, rfl⟩
        go_wp2
        refine bodyPost_ret (v := .tuple #[.agg #[.int .i64 0, .int .i64 0], .int .i64 1]) (by simp [results, Try.results11, go_sem]) rfl ⟨ret_cond HV.out, ?_⟩
        go_grown
      · have HV : Hid (condS m n = (3, x, 0)) := by show _ = _; unfold condS; simp_all
        simp only [hp] at C
        clear hp
        go_enter Try.func11, Try.ntmps11
        go_wp2_with fail
        refine (C.out _).mono ?_; rintro e w' ⟨rfl, rfl⟩
        go_wp2
        refine bodyPost_ret (v := .tuple #[.agg #[.int .i64 3, .int .i64 x], .int .i64 0]) (by simp [results, Try.results11, go_sem]) rfl ⟨ret_cond HV.out, ?_⟩
        go_grown
    · obtain ⟨x, ok, hp⟩ : ∃ x ok, prs m = (x, ok) := ⟨_, _, rfl⟩
      cases ok
      · have HV : Hid (condS m n = (0, 0, 1)) := by show _ = _; unfold condS; simp_all
        simp only [hp] at C
        clear hp
        go_enter Try.func11, Try.ntmps11
        go_wp2_with fail
        refine (C.out _).mono ?_; rintro e w' ⟨rfl, rfl⟩
        go_wp2
        refine bodyPost_ret (v := .tuple #[.agg #[.int .i64 0, .int .i64 0], .int .i64 1]) (by simp [results, Try.results11, go_sem]) rfl ⟨ret_cond HV.out, ?_⟩
        go_grown
      · have HV : Hid (condS m n = (0, 0, 1)) := by show _ = _; unfold condS; simp_all
        simp only [hp] at C
        clear hp
        go_enter Try.func11, Try.ntmps11
        go_wp2_with fail
        refine (C.out _).mono ?_; rintro e w' ⟨rfl, rfl⟩
        go_wp2
        refine bodyPost_ret (v := .tuple #[.agg #[.int .i64 0, .int .i64 0], .int .i64 1]) (by simp [results, Try.results11, go_sem]) rfl ⟨ret_cond HV.out, ?_⟩
        go_grown
    · obtain ⟨x, ok, hp⟩ : ∃ x ok, prs m = (x, ok) := ⟨_, _, rfl⟩
      cases ok
      · have HV : Hid (condS m n = (0, 0, 1)) := by show _ = _; unfold condS; simp_all
        simp only [hp] at C
        clear hp
        go_enter Try.func11, Try.ntmps11
        go_wp2_with fail
        refine (C.out _).mono ?_; rintro e w' ⟨rfl, rfl⟩
        go_wp2
        refine bodyPost_ret (v := .tuple #[.agg #[.int .i64 0, .int .i64 0], .int .i64 1]) (by simp [results, Try.results11, go_sem]) rfl ⟨ret_cond HV.out, ?_⟩
        go_grown
      · have HV : Hid (condS m n = (0, 0, 1)) := by show _ = _; unfold condS; simp_all
        simp only [hp] at C
        clear hp
        go_enter Try.func11, Try.ntmps11
        go_wp2_with fail
        refine (C.out _).mono ?_; rintro e w' ⟨rfl, rfl⟩
        go_wp2
        refine bodyPost_ret (v := .tuple #[.agg #[.int .i64 0, .int .i64 0], .int .i64 1]) (by simp [results, Try.results11, go_sem]) rfl ⟨ret_cond HV.out, ?_⟩
        go_grown
end Go.Proofs.Ytdjibpjdgfhcoaa
