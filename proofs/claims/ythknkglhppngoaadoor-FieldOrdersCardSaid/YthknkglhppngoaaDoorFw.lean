/- Lines of a contact: the words of kinds and labels. -/
import Derived.Test.YthknkglhppngoaaDoorFo
namespace Go.Proofs.YthknkglhppngoaaDoor
open Go.RowKit
open Go.Lib
set_option linter.unusedVariables false
set_option maxRecDepth 20000
def kindW (k : Int) : ByteArray := if k = 1 then ⟨#[110, 97, 109, 101]⟩ else if k = 2 then ⟨#[111, 114, 103]⟩ else if k = 3 then ⟨#[116, 101, 108]⟩ else if k = 4 then ⟨#[109, 97, 105, 108]⟩ else if k = 5 then ⟨#[100, 97, 121]⟩ else if k = 6 then ⟨#[110, 111, 116, 101]⟩ else ⟨#[]⟩
def labelW (k : Int) : ByteArray := if k = 1 then ⟨#[104, 111, 109, 101]⟩ else if k = 2 then ⟨#[119, 111, 114, 107]⟩ else if k = 3 then ⟨#[99, 101, 108, 108]⟩ else ⟨#[]⟩
def headW (k l : Int) : ByteArray := if l = 0 then kindW k else (kindW k ++ ⟨#[59]⟩) ++ labelW l
def labelledB (k l : Int) : Bool := if l = 0 then true else if l = 1 ∨ l = 2 then (k == 4 || k == 3) else if l = 3 then k == 3 else false
theorem kindW_size (k : Int) : ((kindW k).size : Int) ≤ 4 := by
  unfold kindW
  repeat' split
  all_goals decide
theorem labelW_size (k : Int) : ((labelW k).size : Int) ≤ 4 := by
  unfold labelW
  repeat' split
  all_goals decide
theorem kindWord_any (k : Int) (w : World) : Calls Tryd.prog 13 #[.int .i64 k] w fun e w' => e = .returned (.string (kindW k)) ∧ w' = w := by
  by_cases h1 : k = 1
  · subst h1; go_enter Tryd.func13, Tryd.ntmps13; go_wp2; go_ret; exact ⟨rfl, rfl⟩
  by_cases h2 : k = 2
  · subst h2; go_enter Tryd.func13, Tryd.ntmps13; go_wp2; go_ret; exact ⟨rfl, rfl⟩
  by_cases h3 : k = 3
  · subst h3; go_enter Tryd.func13, Tryd.ntmps13; go_wp2; go_ret; exact ⟨rfl, rfl⟩
  by_cases h4 : k = 4
  · subst h4; go_enter Tryd.func13, Tryd.ntmps13; go_wp2; go_ret; exact ⟨rfl, rfl⟩
  by_cases h5 : k = 5
  · subst h5; go_enter Tryd.func13, Tryd.ntmps13; go_wp2; go_ret; exact ⟨rfl, rfl⟩
  by_cases h6 : k = 6
  · subst h6; go_enter Tryd.func13, Tryd.ntmps13; go_wp2; go_ret; exact ⟨rfl, rfl⟩
  have H0 := Lib.hid (show kindW k = ⟨#[]⟩ by unfold kindW; rw [if_neg h1, if_neg h2, if_neg h3, if_neg h4, if_neg h5, if_neg h6])
  have d1 : (k == 1) = false := by simpa using h1
  have d2 : (k == 2) = false := by simpa using h2
  have d3 : (k == 3) = false := by simpa using h3
  have d4 : (k == 4) = false := by simpa using h4
  have d5 : (k == 5) = false := by simpa using h5
  have d6 : (k == 6) = false := by simpa using h6
  clear h1 h2 h3 h4 h5 h6
  go_enter Tryd.func13, Tryd.ntmps13; go_wp2; go_ret
  exact ⟨by rw [H0.out]; rfl, rfl⟩
theorem labelWord_any (k : Int) (w : World) : Calls Tryd.prog 17 #[.int .i64 k] w fun e w' => e = .returned (.string (labelW k)) ∧ w' = w := by
  by_cases h1 : k = 1
  · subst h1; go_enter Tryd.func17, Tryd.ntmps17; go_wp2; go_ret; exact ⟨rfl, rfl⟩
  by_cases h2 : k = 2
  · subst h2; go_enter Tryd.func17, Tryd.ntmps17; go_wp2; go_ret; exact ⟨rfl, rfl⟩
  by_cases h3 : k = 3
  · subst h3; go_enter Tryd.func17, Tryd.ntmps17; go_wp2; go_ret; exact ⟨rfl, rfl⟩
  have H0 := Lib.hid (show labelW k = ⟨#[]⟩ by unfold labelW; rw [if_neg h1, if_neg h2, if_neg h3])
  have d1 : (k == 1) = false := by simpa using h1
  have d2 : (k == 2) = false := by simpa using h2
  have d3 : (k == 3) = false := by simpa using h3
  clear h1 h2 h3
  go_enter Tryd.func17, Tryd.ntmps17; go_wp2; go_ret
  exact ⟨by rw [H0.out]; rfl, rfl⟩
theorem head_any (k l : Int) (w : World) : Calls Tryd.prog 12 #[.int .i64 k, .int .i64 l] w fun e w' => e = .returned (.string (headW k l)) ∧ w' = w := by
  have HK := Lib.hid (fun w => kindWord_any k w)
  have HL := Lib.hid (fun w => labelWord_any l w)
  have hk := kindW_size k
  have hl := labelW_size l
  have H := Lib.hid (show headW k l = if l = 0 then kindW k else (kindW k ++ ⟨#[59]⟩) ++ labelW l from rfl)
  obtain ⟨A, hA⟩ : ∃ A, kindW k = A := ⟨_, rfl⟩
  obtain ⟨B, hB⟩ : ∃ B, labelW l = B := ⟨_, rfl⟩
  rw [hA] at HK hk H
  rw [hB] at HL hl H
  clear hA hB
  have z : ((⟨#[59]⟩ : ByteArray).size : Int) = 1 := rfl
  have hA1 : ((A ++ (⟨#[59]⟩ : ByteArray)).size : Int) ≤ 5 := by rw [ByteArray.size_append]; omega
  by_cases h : l = 0
  · subst h
    have H0 := Lib.hid (show headW k 0 = A by rw [H.out, if_pos rfl])
    go_enter Tryd.func12, Tryd.ntmps12
    go_wp2_with (go_at_call 13; (with_reducible refine (HK.out _).mono ?_); rintro e w1 ⟨rfl, hw⟩; replace hw := hw.symm; subst hw)
    go_ret
    exact ⟨by rw [H0.out]; rfl, rfl⟩
  · have H0 := Lib.hid (show headW k l = (A ++ ⟨#[59]⟩) ++ B by rw [H.out, if_neg h])
    have d : (l == 0) = false := by simpa using h
    clear h
    go_enter Tryd.func12, Tryd.ntmps12
    go_wp2_with (first | (go_at_call 13; (with_reducible refine (HK.out _).mono ?_); rintro e w1 ⟨rfl, hw⟩; replace hw := hw.symm; subst hw) | (go_at_call 17; (with_reducible refine (HL.out _).mono ?_); rintro e w1 ⟨rfl, hw⟩; replace hw := hw.symm; subst hw))
    go_ret
    exact ⟨by rw [H0.out]; rfl, rfl⟩
theorem labelled_any (k l : Int) (w : World) : Calls Tryd.prog 14 #[.int .i64 k, .int .i64 l] w fun e w' => e = .returned (.bool (labelledB k l)) ∧ w' = w := by
  obtain ⟨a, ha⟩ : ∃ a, (k == 4) = a := ⟨_, rfl⟩
  obtain ⟨b, hb⟩ : ∃ b, (k == 3) = b := ⟨_, rfl⟩
  have H := Lib.hid (show labelledB k l = if l = 0 then true else if l = 1 ∨ l = 2 then (a || b) else if l = 3 then b else false by rw [← ha, ← hb]; rfl)
  by_cases h0 : l = 0
  · subst h0
    have H0 := Lib.hid (show labelledB k 0 = true from rfl)
    go_enter Tryd.func14, Tryd.ntmps14; go_wp2; go_ret
    exact ⟨by rw [H0.out]; rfl, rfl⟩
  have d0 : (l == 0) = false := by simpa using h0
  by_cases h1 : l = 1
  · subst h1
    have H0 := Lib.hid (show labelledB k 1 = (a || b) by rw [H.out]; rfl)
    cases a <;> cases b
    all_goals (
      go_enter Tryd.func14, Tryd.ntmps14; go_wp2; go_ret
      exact ⟨by rw [H0.out]; rfl, rfl⟩)
  by_cases h2 : l = 2
  · subst h2
    have H0 := Lib.hid (show labelledB k 2 = (a || b) by rw [H.out]; rfl)
    cases a <;> cases b
    all_goals (
      go_enter Tryd.func14, Tryd.ntmps14; go_wp2; go_ret
      exact ⟨by rw [H0.out]; rfl, rfl⟩)
  by_cases h3 : l = 3
  · subst h3
    have H0 := Lib.hid (show labelledB k 3 = b by rw [H.out]; rfl)
    cases b
    all_goals (
      go_enter Tryd.func14, Tryd.ntmps14; go_wp2; go_ret
      exact ⟨by rw [H0.out]; rfl, rfl⟩)
  have H0 := Lib.hid (show labelledB k l = false by rw [H.out, if_neg h0, if_neg (by omega), if_neg h3])
  have d1 : (l == 1) = false := by simpa using h1
  have d2 : (l == 2) = false := by simpa using h2
  have d3 : (l == 3) = false := by simpa using h3
  clear h0 h1 h2 h3
  go_enter Tryd.func14, Tryd.ntmps14; go_wp2; go_ret
  exact ⟨by rw [H0.out]; rfl, rfl⟩
end Go.Proofs.YthknkglhppngoaaDoor
