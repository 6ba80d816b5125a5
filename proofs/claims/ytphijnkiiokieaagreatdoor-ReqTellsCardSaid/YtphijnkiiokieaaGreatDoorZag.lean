/- Texts of one proof, joined. -/
import Derived.Test.YtphijnkiiokieaaGreatDoorZaf
set_option linter.unusedVariables false
set_option linter.unusedSimpArgs false
set_option maxRecDepth 100000
set_option maxHeartbeats 80000000
namespace Go.Proofs.YtphijnkiiokieaaGreatDoor
open Go.RowKit
open Go.Lib
def kindW (k : Int) : ByteArray := if k = 1 then ⟨#[110, 97, 109, 101]⟩ else if k = 2 then ⟨#[111, 114, 103]⟩ else if k = 3 then ⟨#[116, 101, 108]⟩ else if k = 4 then ⟨#[109, 97, 105, 108]⟩ else if k = 5 then ⟨#[100, 97, 121]⟩ else if k = 6 then ⟨#[110, 111, 116, 101]⟩ else ⟨#[]⟩
def labelW (k : Int) : ByteArray := if k = 1 then ⟨#[104, 111, 109, 101]⟩ else if k = 2 then ⟨#[119, 111, 114, 107]⟩ else if k = 3 then ⟨#[99, 101, 108, 108]⟩ else ⟨#[]⟩
def headW (k l : Int) : ByteArray := if l = 0 then kindW k else (kindW k ++ ⟨#[59]⟩) ++ labelW l
def labelledB (k l : Int) : Bool := if l = 0 then true else if l = 1 ∨ l = 2 then (k == 4 || k == 3) else if l = 3 then k == 3 else false
theorem kindW_size (k : Int) : ((kindW k).size : Int) ≤ 4 := by
 unfold kindW
 repeat' split
 all_goals decide
theorem labelW_size (k : Int) : ((labelW k).size : Int) ≤ 4 := by
 unfold labelW
 repeat' split
 all_goals decide
theorem kindWord_any (k : Int) (w : World) : Calls Tryz.prog 107 #[.int .i64 k] w fun e w' => e = .returned (.string (kindW k)) ∧ w' = w := by
 by_cases h1 : k = 1
 ·
  subst h1; go_enter Tryz.func107, Tryz.ntmps107; go_wp2; go_ret; exact ⟨rfl, rfl⟩
 by_cases h2 : k = 2
 ·
  subst h2; go_enter Tryz.func107, Tryz.ntmps107; go_wp2; go_ret; exact ⟨rfl, rfl⟩
 by_cases h3 : k = 3
 ·
  subst h3; go_enter Tryz.func107, Tryz.ntmps107; go_wp2; go_ret; exact ⟨rfl, rfl⟩
 by_cases h4 : k = 4
 ·
  subst h4; go_enter Tryz.func107, Tryz.ntmps107; go_wp2; go_ret; exact ⟨rfl, rfl⟩
 by_cases h5 : k = 5
 ·
  subst h5; go_enter Tryz.func107, Tryz.ntmps107; go_wp2; go_ret; exact ⟨rfl, rfl⟩
 by_cases h6 : k = 6
 ·
  subst h6; go_enter Tryz.func107, Tryz.ntmps107; go_wp2; go_ret; exact ⟨rfl, rfl⟩
 have H0 := Zh (show kindW k = ⟨#[]⟩ by unfold kindW; rw [if_neg h1, if_neg h2, if_neg h3, if_neg h4, if_neg h5, if_neg h6]); have d1 : (k == 1) = false := by simpa using h1
 have d2 : (k == 2) = false := by simpa using h2
 have d3 : (k == 3) = false := by simpa using h3
 have d4 : (k == 4) = false := by simpa using h4
 have d5 : (k == 5) = false := by simpa using h5
 have d6 : (k == 6) = false := by simpa using h6
 clear h1 h2 h3 h4 h5 h6
 go_enter Tryz.func107, Tryz.ntmps107; go_wp2; go_ret
 exact ⟨by rw [H0.out]; rfl, rfl⟩
theorem labelWord_any (k : Int) (w : World) : Calls Tryz.prog 108 #[.int .i64 k] w fun e w' => e = .returned (.string (labelW k)) ∧ w' = w := by
 by_cases h1 : k = 1
 ·
  subst h1; go_enter Tryz.func108, Tryz.ntmps108; go_wp2; go_ret; exact ⟨rfl, rfl⟩
 by_cases h2 : k = 2
 ·
  subst h2; go_enter Tryz.func108, Tryz.ntmps108; go_wp2; go_ret; exact ⟨rfl, rfl⟩
 by_cases h3 : k = 3
 ·
  subst h3; go_enter Tryz.func108, Tryz.ntmps108; go_wp2; go_ret; exact ⟨rfl, rfl⟩
 have H0 := Zh (show labelW k = ⟨#[]⟩ by unfold labelW; rw [if_neg h1, if_neg h2, if_neg h3]); have d1 : (k == 1) = false := by simpa using h1
 have d2 : (k == 2) = false := by simpa using h2
 have d3 : (k == 3) = false := by simpa using h3
 clear h1 h2 h3
 go_enter Tryz.func108, Tryz.ntmps108; go_wp2; go_ret
 exact ⟨by rw [H0.out]; rfl, rfl⟩
theorem head_any (k l : Int) (w : World) : Calls Tryz.prog 98 #[.int .i64 k, .int .i64 l] w fun e w' => e = .returned (.string (headW k l)) ∧ w' = w := by
 have HK := Zh (fun w => kindWord_any k w); have HL := Zh (fun w => labelWord_any l w); have hk := kindW_size k; have hl := labelW_size l; have H := Zh (show headW k l = if l = 0 then kindW k else (kindW k ++ ⟨#[59]⟩) ++ labelW l from rfl); obtain ⟨A, hA⟩ : ∃ A, kindW k = A := ⟨_, rfl⟩; obtain ⟨B, hB⟩ : ∃ B, labelW l = B := ⟨_, rfl⟩; rw [hA] at HK hk H; rw [hB] at HL hl H; clear hA hB; have z : ((⟨#[59]⟩ : ByteArray).size : Int) = 1 := rfl; have hA1 : ((A ++ (⟨#[59]⟩ : ByteArray)).size : Int) ≤ 5 := by rw [ByteArray.size_append]; omega
 by_cases h : l = 0
 ·
  subst h; have H0 := Zh (show headW k 0 = A by rw [H.out, if_pos rfl])
  go_enter Tryz.func98, Tryz.ntmps98
  go_wp2_with (go_at_call 107; (with_reducible refine (HK.out _).mono ?_); rintro e w1 ⟨rfl, hw⟩; replace hw := hw.symm; subst hw)
  go_ret
  exact ⟨by rw [H0.out]; rfl, rfl⟩
 ·
  have H0 := Zh (show headW k l = (A ++ ⟨#[59]⟩) ++ B by rw [H.out, if_neg h]); have d : (l == 0) = false := by simpa using h
  clear h
  go_enter Tryz.func98, Tryz.ntmps98
  go_wp2_with (first | (go_at_call 107; (with_reducible refine (HK.out _).mono ?_); rintro e w1 ⟨rfl, hw⟩; replace hw := hw.symm; subst hw) | (go_at_call 108; (with_reducible refine (HL.out _).mono ?_); rintro e w1 ⟨rfl, hw⟩; replace hw := hw.symm; subst hw))
  go_ret
  exact ⟨by rw [H0.out]; rfl, rfl⟩
theorem labelled_any (k l : Int) (w : World) : Calls Tryz.prog 127 #[.int .i64 k, .int .i64 l] w fun e w' => e = .returned (.bool (labelledB k l)) ∧ w' = w := by
 obtain ⟨a, ha⟩ : ∃ a, (k == 4) = a := ⟨_, rfl⟩; obtain ⟨b, hb⟩ : ∃ b, (k == 3) = b := ⟨_, rfl⟩; have H := Zh (show labelledB k l = if l = 0 then true else if l = 1 ∨ l = 2 then (a || b) else if l = 3 then b else false by rw [← ha, ← hb]; rfl)
 by_cases h0 : l = 0
 ·
  subst h0; have H0 := Zh (show labelledB k 0 = true from rfl)
  go_enter Tryz.func127, Tryz.ntmps127; go_wp2; go_ret
  exact ⟨by rw [H0.out]; rfl, rfl⟩
 have d0 : (l == 0) = false := by simpa using h0
 by_cases h1 : l = 1
 ·
  subst h1; have H0 := Zh (show labelledB k 1 = (a || b) by rw [H.out]; rfl)
  cases a <;> cases b
  all_goals (
   go_enter Tryz.func127, Tryz.ntmps127; go_wp2; go_ret
   exact ⟨by rw [H0.out]; rfl, rfl⟩)
 by_cases h2 : l = 2
 ·
  subst h2; have H0 := Zh (show labelledB k 2 = (a || b) by rw [H.out]; rfl)
  cases a <;> cases b
  all_goals (
   go_enter Tryz.func127, Tryz.ntmps127; go_wp2; go_ret
   exact ⟨by rw [H0.out]; rfl, rfl⟩)
 by_cases h3 : l = 3
 ·
  subst h3; have H0 := Zh (show labelledB k 3 = b by rw [H.out]; rfl)
  cases b
  all_goals (
   go_enter Tryz.func127, Tryz.ntmps127; go_wp2; go_ret
   exact ⟨by rw [H0.out]; rfl, rfl⟩)
 have H0 := Zh (show labelledB k l = false by rw [H.out, if_neg h0, if_neg (by omega), if_neg h3]); have d1 : (l == 1) = false := by simpa using h1
 have d2 : (l == 2) = false := by simpa using h2
 have d3 : (l == 3) = false := by simpa using h3
 clear h0 h1 h2 h3
 go_enter Tryz.func127, Tryz.ntmps127; go_wp2; go_ret
 exact ⟨by rw [H0.out]; rfl, rfl⟩
end Go.Proofs.YtphijnkiiokieaaGreatDoor
/- Dates, as plain numbers; what is said of a year, a month, a day and a date. -/
namespace Go.Proofs.YtphijnkiiokieaaGreatDoor.Day
open Go.RowKit
set_option linter.unusedVariables false
set_option maxRecDepth 20000
def leapB (y : Int) : Bool := decide (1 ≤ y ∧ y ≤ 9999 ∧ y % 4 = 0 ∧ (y % 100 ≠ 0 ∨ y % 400 = 0))
def dim (y m : Int) : Int := if m = 2 then (if y = 0 ∨ leapB y = true then 29 else 28) else if m = 4 ∨ m = 6 ∨ m = 9 ∨ m = 11 then 30 else 31
def mayB (y m d : Int) : Bool := decide (0 ≤ y ∧ y ≤ 9999 ∧ 1 ≤ m ∧ m ≤ 12 ∧ 1 ≤ d ∧ d ≤ dim y m)
theorem dim_bd (y m : Int) : 28 ≤ dim y m ∧ dim y m ≤ 31 := by
  unfold dim; split <;> split <;> omega
theorem may_iff {y m d : Int} : mayB y m d = true ↔ 0 ≤ y ∧ y ≤ 9999 ∧ 1 ≤ m ∧ m ≤ 12 ∧ 1 ≤ d ∧ d ≤ dim y m := by unfold mayB; simp
theorem leap_any (y : Int) (w : World) : Calls Tryz.prog 194 #[.int .i64 y] w fun e w' => e = .returned (.bool (leapB y)) ∧ w' = w := by
  by_cases h1 : y < 1
  · go_enter Tryz.func194, Tryz.ntmps194
    go_wp2
    go_ret
    exact ⟨ret_bool (by unfold leapB; simp; omega), rfl⟩
  · by_cases h2 : y > 9999
    · go_enter Tryz.func194, Tryz.ntmps194
      go_wp2
      go_ret
      exact ⟨ret_bool (by unfold leapB; simp; omega), rfl⟩
    · have h0 : 0 ≤ y := by omega
      have e4 : y.tmod 4 = y % 4 := Int.tmod_eq_emod_of_nonneg h0
      have e100 : y.tmod 100 = y % 100 := Int.tmod_eq_emod_of_nonneg h0
      have e400 : y.tmod 400 = y % 400 := Int.tmod_eq_emod_of_nonneg h0
      by_cases c4 : y % 4 = 0
      · by_cases c100 : y % 100 = 0
        · by_cases c400 : y % 400 = 0
          · go_enter Tryz.func194, Tryz.ntmps194
            go_wp2
            go_ret
            exact ⟨ret_bool (by unfold leapB; simp; omega), rfl⟩
          · have d400 : (y % 400 == 0) = false := by simpa using c400
            go_enter Tryz.func194, Tryz.ntmps194
            go_wp2
            go_ret
            exact ⟨ret_bool (by unfold leapB; simp; omega), rfl⟩
        · have d100 : (y % 100 == 0) = false := by simpa using c100
          go_enter Tryz.func194, Tryz.ntmps194
          go_wp2
          go_ret
          exact ⟨ret_bool (by unfold leapB; simp; omega), rfl⟩
      · have d4 : (y % 4 == 0) = false := by simpa using c4
        go_enter Tryz.func194, Tryz.ntmps194
        go_wp2
        go_ret
        exact ⟨ret_bool (by unfold leapB; simp; omega), rfl⟩
theorem length_any (y m : Int) (w : World) : Calls Tryz.prog 186 #[.int .i64 y, .int .i64 m] w fun e w' => e = .returned (.int .i64 (dim y m)) ∧ w' = w := by
  by_cases h2 : m = 2
  · subst h2
    by_cases h0 : y = 0
    · subst h0
      go_enter Tryz.func186, Tryz.ntmps186
      go_wp2_with (first
        | (go_at_call 194; refine (leap_any _ _).mono ?_; rintro _ w2 ⟨rfl, hw⟩; replace hw := hw.symm; subst hw)
        | fail)
      go_ret
      exact ⟨rfl, rfl⟩
    · have d0 : (y == 0) = false := by simpa using h0
      cases hl : leapB y
      all_goals (
        have HL := Zh hl
        clear hl
        go_enter Tryz.func186, Tryz.ntmps186
        go_wp2_with (first
          | (go_at_call 194; refine (leap_any _ _).mono ?_; rintro _ w2 ⟨rfl, hw⟩; replace hw := hw.symm; subst hw; rw [HL.out])
          | fail)
        go_ret
        exact ⟨ret_i64 (by unfold dim; rw [HL.out]; simp [h0]), rfl⟩)
  · have d2 : (m == 2) = false := by simpa using h2
    by_cases h4 : m = 4
    · subst h4
      go_enter Tryz.func186, Tryz.ntmps186
      go_wp2
      go_ret
      exact ⟨ret_i64 (by unfold dim; simp), rfl⟩
    · have d4 : (m == 4) = false := by simpa using h4
      by_cases h6 : m = 6
      · subst h6
        go_enter Tryz.func186, Tryz.ntmps186
        go_wp2
        go_ret
        exact ⟨ret_i64 (by unfold dim; simp), rfl⟩
      · have d6 : (m == 6) = false := by simpa using h6
        by_cases h9 : m = 9
        · subst h9
          go_enter Tryz.func186, Tryz.ntmps186
          go_wp2
          go_ret
          exact ⟨ret_i64 (by unfold dim; simp), rfl⟩
        · have d9 : (m == 9) = false := by simpa using h9
          by_cases h11 : m = 11
          · subst h11
            go_enter Tryz.func186, Tryz.ntmps186
            go_wp2
            go_ret
            exact ⟨ret_i64 (by unfold dim; simp), rfl⟩
          · have d11 : (m == 11) = false := by simpa using h11
            go_enter Tryz.func186, Tryz.ntmps186
            go_wp2
            go_ret
            exact ⟨ret_i64 (by unfold dim; rw [if_neg h2, if_neg (by omega)]), rfl⟩
theorem may_any (y m d : Int) (w : World) : Calls Tryz.prog 170 #[.agg #[.int .i64 y, .int .i64 m, .int .i64 d]] w fun e w' => e = .returned (.bool (mayB y m d)) ∧ Below w.heap.size w w' := by
  by_cases c : 0 ≤ y ∧ y ≤ 9999 ∧ 1 ≤ m ∧ m ≤ 12
  · obtain ⟨c1, c2, c3, c4⟩ := c
    have HM := Zh (⟨c1, c2, c3, c4⟩ : 0 ≤ y ∧ y ≤ 9999 ∧ 1 ≤ m ∧ m ≤ 12)
    have HD := Zh (dim_bd y m)
    by_cases h1 : 1 ≤ d
    · go_enter Tryz.func170, Tryz.ntmps170
      go_wp2
      go_quiet ((go_at_call 186; exact Calls.quiet_of_same (length_any _ _ _)))
      go_wp2
      go_ret
      exact ⟨ret_bool (by have := HM.out; rw [Bool.eq_iff_iff]; simp [mayB, h1, this]), below_drewN ((Below.refl _ _).alloc (Nat.le_refl _) _) _⟩
    · have hd : decide (1 ≤ d) = false := by simpa using h1
      go_enter Tryz.func170, Tryz.ntmps170
      go_wp2
      go_quiet ((go_at_call 186; exact Calls.quiet_of_same (length_any _ _ _)))
      go_wp2
      go_ret
      exact ⟨ret_bool (by unfold mayB; simp; omega), below_drewN ((Below.refl _ _).alloc (Nat.le_refl _) _) _⟩
  · have hf : mayB y m d = false := by unfold mayB; simp; omega
    have HF := Zh hf
    have HC := Zh c
    clear c hf
    rw [HF.out]
    by_cases a1 : y < 0
    · go_enter Tryz.func170, Tryz.ntmps170
      go_wp2
      go_ret
      exact ⟨rfl, (Below.refl _ _).alloc (Nat.le_refl _) _⟩
    · by_cases a2 : y > 9999
      · go_enter Tryz.func170, Tryz.ntmps170
        go_wp2
        go_ret
        exact ⟨rfl, (Below.refl _ _).alloc (Nat.le_refl _) _⟩
      · by_cases a3 : m < 1
        · go_enter Tryz.func170, Tryz.ntmps170
          go_wp2
          go_ret
          exact ⟨rfl, (Below.refl _ _).alloc (Nat.le_refl _) _⟩
        · have a4 : m > 12 := by have := HC.out; omega
          go_enter Tryz.func170, Tryz.ntmps170
          go_wp2
          go_ret
          exact ⟨rfl, (Below.refl _ _).alloc (Nat.le_refl _) _⟩
/-- A date in a box of the call's own. -/
theorem Blk3.cells {w w1 : World} {y m d : Int} (h : Blk w1 w.heap.size 130 #[.int .i64 y, .int .i64 m, .int .i64 d]) : w1.cell? ⟨w.heap.size, 0, none⟩ = some (.int .i64 y) ∧ w1.cell? ⟨w.heap.size, 1, none⟩ = some (.int .i64 m) ∧ w1.cell? ⟨w.heap.size, 2, none⟩ = some (.int .i64 d) :=
  ⟨h.cell 0, h.cell 1, h.cell 2⟩
structure Bx2 (w0 wr : World) (B C : Nat) (y m d ty tm td : Int) : Prop where
  one : Blk wr B 130 #[.int .i64 y, .int .i64 m, .int .i64 d]
  two : Blk wr C 130 #[.int .i64 ty, .int .i64 tm, .int .i64 td]
  bel : Below w0.heap.size w0 wr
theorem Bx2.step {w0 wr w' : World} {B C : Nat} {y m d ty tm td : Int} (h : Bx2 w0 wr B C y m d ty tm td) (hb : Below wr.heap.size wr w') : Bx2 w0 w' B C y m d ty tm td :=
  ⟨h.one.below hb h.one.lt, h.two.below hb h.two.lt, h.bel.trans (hb.mono h.bel.size)⟩
end Go.Proofs.YtphijnkiiokieaaGreatDoor.Day
namespace Go.Proofs.YtphijnkiiokieaaGreatDoor
open Go.RowKit
abbrev fieldV (k l : Int) (v : ByteArray) : Value := .agg #[.int .i64 k, .int .i64 l, .string v]
def lessF (k l : Int) (v : ByteArray) (k2 l2 : Int) (v2 : ByteArray) : Bool := if k = k2 then (if l = l2 then Op.bytesLess v.toList v2.toList else decide (l < l2)) else decide (k < k2)
theorem two_boxes (w : World) (t : TypeId) (a b : Array Value) : Below w.heap.size w ((w.alloc (.cells a t)).alloc (.cells b t)) := ((Below.refl _ _).alloc (Nat.le_refl _) _).alloc (by simp) _
end Go.Proofs.YtphijnkiiokieaaGreatDoor
namespace Go.Proofs.YtphijnkiiokieaaGreatDoor
open Go.RowKit
open Go.Lib
def ordF (k l : Int) (v : ByteArray) (k2 l2 : Int) (v2 : ByteArray) : Int := if lessF k l v k2 l2 v2 = true then -1 else if lessF k2 l2 v2 k l v = true then 1 else 0
abbrev F3 := Int × Int × ByteArray
def fV (f : F3) : Value := fieldV f.1 f.2.1 f.2.2
def Fv (w : World) (A : Option Addr) (cap b off : Nat) (L : List F3) : Prop := L.length ≤ cap ∧ ∀ j f, L[j]? = some f → A = some ⟨b, off, none⟩ ∧ b < w.heap.size ∧ w.cell? ⟨b, off + j * 3, none⟩ = some (.int .i64 f.1) ∧ w.cell? ⟨b, off + j * 3 + 1, none⟩ = some (.int .i64 f.2.1) ∧ w.cell? ⟨b, off + j * 3 + 2, none⟩ = some (.string f.2.2)
theorem Fv.below {w w' : World} {A : Option Addr} {cap b off : Nat} {L : List F3} (h : Fv w A cap b off L) (hb : Below w.heap.size w w') : Fv w' A cap b off L :=
 ⟨h.1, fun j f hj => by
  obtain ⟨h1, h2, h3, h4, h5⟩ := h.2 j f hj
  exact ⟨h1, Nat.lt_of_lt_of_le h2 hb.size, by rw [hb.cell (p := ⟨b, _, none⟩) h2]; exact h3, by rw [hb.cell (p := ⟨b, _, none⟩) h2]; exact h4, by rw [hb.cell (p := ⟨b, _, none⟩) h2]; exact h5⟩⟩
def cntF (k : Int) (L : List F3) (i : Nat) : Nat := ((L.take i).filter fun f => f.1 == k).length
theorem cntF_le (k : Int) (L : List F3) (i : Nat) : cntF k L i ≤ L.length := by
 unfold cntF
 exact Nat.le_trans (List.length_filter_le _ _) (by rw [List.length_take]; omega)
theorem cntF_step {k : Int} {L : List F3} {i : Nat} {f : F3} (h : L[i]? = some f) : cntF k L (i + 1) = cntF k L i + if f.1 = k then 1 else 0 := by
 unfold cntF
 rw [List.take_add_one, h, List.filter_append, List.length_append]
 congr 1
 simp only [Option.toList, List.filter_cons, List.filter_nil]
 by_cases e : f.1 = k
 ·
  rw [if_pos e, if_pos (by simpa using e)]; rfl
 ·
  rw [if_neg e, if_neg (by simpa using e)]; rfl
theorem count_any {w : World} {A : Option Addr} {cap b off : Nat} {L : List F3} (h : Fv w A cap b off L) (hn : L.length ≤ 100000) (k : Int) (m : Nat) (hm : cntF k L L.length = m) : Calls Tryz.prog 115 #[.slice A L.length cap, .int .i64 k] w fun e w' => e = .returned (.int .i64 (m : Int)) ∧ Below w.heap.size w w' := by
 have H := Zh h; have HM := Zh hm; obtain ⟨n, hnn⟩ : ∃ n, L.length = n := ⟨_, rfl⟩; have HN := Zh hnn; rw [hnn] at hn ⊢; have hnI : (n : Int) ≤ 100000 := by omega
 clear h hm hnn
 go_enter Tryz.func115, Tryz.ntmps115
 go_wp2_with fail
 go_loopw [5, 10] (fun t i wr => ∃ q : Nat, q ≤ n ∧ t = .int .i64 (cntF k L q : Int) ∧ i = .int .i64 (q : Int) ∧ Below w.heap.size w wr) (fun _ i _ => n - (intOf i).toNat)
 case atStart => exact ⟨0, Nat.zero_le _, rfl, rfl, Below.refl _ _⟩
 case round =>
  obtain ⟨q, hq, rfl, rfl, hb⟩ := hrel; have hcl := cntF_le k L q; obtain ⟨kc, hkc⟩ : ∃ kc, cntF k L q = kc := ⟨_, rfl⟩; rw [hkc] at hcl ⊢; have hkl : kc ≤ 100000 := by have := HN.out; omega
  have HKC := Zh hkc; have HB := Zh hb; clear hkc hcl hb
  by_cases hql : q < n
  ·
   obtain ⟨f, hf⟩ : ∃ f, L[q]? = some f := ⟨L[q]'(by rw [HN.out]; exact hql), List.getElem?_eq_getElem _⟩; obtain ⟨rfl, hbl, c0, c1, c2⟩ := (H.out.below HB.out).2 q f hf; have HST := Zh (cntF_step (k := k) hf); obtain ⟨f1, f2, f3⟩ := f; simp only at c0 c1 c2 HST; have hqI : (q : Int) < (n : Int) := by omega
   obtain ⟨n9, hn9⟩ : ∃ n, wr.heap.size = n := ⟨_, rfl⟩; obtain ⟨W1, hW1⟩ : ∃ W1, wr.alloc (.cells #[.int .i64 0, .int .i64 0, .string { data := #[] }] 92) = W1 := ⟨_, rfl⟩; have HC1 := Zh (show Below wr.heap.size wr W1 from hW1 ▸ (Below.refl _ wr).alloc (Nat.le_refl _) _); have HY1 := Zh (show Blk W1 n9 92 #[.int .i64 0, .int .i64 0, .string .empty] from hn9 ▸ hW1 ▸ Blk.new wr 92 _); have y0 := HY1.out.cell 0; have y1 := HY1.out.cell 1; have y2 := HY1.out.cell 2; have g0 := HY1.out.frozen 0; have g1 := HY1.out.frozen 1; have g2 := HY1.out.frozen 2; obtain ⟨w2, hw2⟩ : ∃ w2, ((W1.setCell ⟨n9, 0, none⟩ (.int .i64 f1)).setCell ⟨n9, 1, none⟩ (.int .i64 f2)).setCell ⟨n9, 2, none⟩ (.string f3) = w2 := ⟨_, rfl⟩; have HB2 := Zh (show Blk w2 n9 92 #[.int .i64 f1, .int .i64 f2, .string f3] from hw2 ▸ (((HY1.out.set_ 0 _).set_ 1 _).set_ 2 _)); have HC2 := Zh (show Below n9 wr w2 from hw2 ▸ (((((HC1.out.mono (Nat.le_of_eq hn9.symm)).setCell (p := ⟨n9, 0, none⟩) (Nat.le_refl _) _).setCell (p := ⟨n9, 1, none⟩) (Nat.le_refl _) _).setCell (p := ⟨n9, 2, none⟩) (Nat.le_refl _) _))); have HW2 := Zh (HB.out.trans (HC2.out.mono (by have := HB.out.size; omega))); have z0 : w2.cell? ⟨n9, 0, none⟩ = some (.int .i64 f1) := HB2.out.cell 0; clear hf hbl
   by_cases he : f1 = k
   ·
    have heb : (f1 == k) = true := by simpa using he
    have HST2 := Zh (show cntF k L (q + 1) = kc + 1 from by rw [HST.out, if_pos he, HKC.out]); clear he
    go_wp2_with fail
    try rw [hw2]
    clear hw2 y0 y1 y2 g0 g1 g2 hW1 c0 c1 c2
    go_wp2_with fail
    go_roundw
    case rel => exact ⟨q + 1, by omega, by rw [HST2.out]; go_num, by go_num, HW2.out⟩
    case measure => simp [intOf]; omega
   ·
    have heb : (f1 == k) = false := by simpa using he
    have HST2 := Zh (show cntF k L (q + 1) = kc from by rw [HST.out, if_neg he, HKC.out]; rfl); clear he
    go_wp2_with fail
    try rw [hw2]
    clear hw2 y0 y1 y2 g0 g1 g2 hW1 c0 c1 c2
    go_wp2_with fail
    go_roundw
    case rel => exact ⟨q + 1, by omega, by rw [HST2.out], by go_num, HW2.out⟩
    case measure => simp [intOf]; omega
  ·
   obtain rfl : q = n := by omega
   obtain rfl : kc = m := by rw [← HKC.out, ← HM.out, HN.out]
   clear hql
   go_wp2
   go_ret
   exact ⟨rfl, HB.out⟩
end Go.Proofs.YtphijnkiiokieaaGreatDoor
namespace Go.Proofs.YtphijnkiiokieaaGreatDoor
open Go.RowKit
def Tabs (w : World) : Prop := Lib.Utf8Tabs 1 2 w
theorem info_of {P : Program} {e : TypeId} {z : Value} {a b : Nat} (h : (P.info? e).map (fun i => (i.zero, i.size, i.bytes)) = some (some z, a, b)) : ∃ i, P.info? e = some i ∧ i.zero = some z ∧ i.size = a ∧ i.bytes = b := by
 cases hi : P.info? e with
 | none => rw [hi] at h; cases h
 | some i => rw [hi] at h; simp at h; exact ⟨i, rfl, h⟩
theorem info5 : (Tryz.prog.info? 5).map (fun i => (i.zero, i.size, i.bytes)) = some (some (.int .u8 0), 1, 1) := by kernel_rfl
theorem infoB : (Tryz.prog.info? 122).map (fun i => i.size) = some 2 := by kernel_rfl
theorem liesB : liesAt Tryz.prog Tryz.prog.depth 122 (2 / Tryz.prog.cellsOf 122) 0 122 1 = true := by kernel_rfl
theorem copy_used (b : Nat) (w : World) (h0 : w.cell? ⟨b, 0, none⟩ = some (.pointer (some ⟨b, 0, none⟩))) : Calls Tryz.prog 132 #[.pointer (some ⟨b, 0, none⟩)] w fun e w' => e = .returned (.tuple #[]) ∧ w' = w := by
 obtain ⟨j, hj, hjs⟩ := Option.map_eq_some_iff.1 infoB
 go_enter Tryz.func132, Tryz.ntmps132
 go_wp2
 rw [Lib.run_neq_ptr_same w _ Tryz.underlying120 hj]
 go_wp2
 go_end0
 exact ⟨rfl, rfl⟩
theorem copy_fresh (b : Nat) (w : World) (h0 : w.cell? ⟨b, 0, none⟩ = some (.pointer none)) (hsh : w.shape? b = some (122, 2)) (hfz : w.frozen? ⟨b, 0, none⟩ = false) : Calls Tryz.prog 132 #[.pointer (some ⟨b, 0, none⟩)] w fun e w' => e = .returned (.tuple #[]) ∧ w' = w.setCell ⟨b, 0, none⟩ (.pointer (some ⟨b, 0, none⟩)) := by
 obtain ⟨j, hj, hjs⟩ := Option.map_eq_some_iff.1 infoB
 go_enter Tryz.func132, Tryz.ntmps132
 go_wp2
 rw [Lib.run_to_unsafe w ⟨b, 0, none⟩ Tryz.underlying120 Tryz.underlying152 hj (by rw [hjs]; decide) hsh (Nat.zero_lt_succ 1)]; simp only [Result.andThen]; rw [Oper.upon_value]
 go_wp2
 rw [run_callFunc_extern Tryz.func155 (by kernel_rfl) (by kernel_rfl) (by kernel_rfl) (e := Extern.AbiNoEscape.same) (by kernel_rfl)]; rw [Lib.run_noEscape]; simp only [Result.andThen]; rw [Oper.upon_value]
 go_wp2
 rw [Lib.run_from_unsafe w ⟨b, 0, none⟩ Tryz.underlying152 Tryz.underlying120 hj hsh liesB]; simp only [Result.andThen]; rw [Oper.upon_value]
 go_wp2
 go_end0
 exact ⟨rfl, rfl⟩
theorem copy_any (B b : Nat) (bs : List Value) (w : World) (h : Lib.IsBuilder 122 5 B b bs w) :
  Calls Tryz.prog 132 #[.pointer (some ⟨b, 0, none⟩)] w fun e w' => e = .returned (.tuple #[]) ∧ (Lib.BuilderAt 122 5 B b (.pointer (some ⟨b, 0, none⟩)) bs w' ∧ Below B w w') := by
 rcases h with h | h
 ·
  refine (copy_fresh b w h.cell0 h.shape h.frozen0).mono ?_; rintro e w' ⟨rfl, rfl⟩
  exact ⟨rfl, h.used _, (Below.refl B w).setCell (p := ⟨b, 0, none⟩) h.1 _⟩
 ·
  refine (copy_used b w h.cell0).mono ?_; rintro e w' ⟨rfl, rfl⟩
  exact ⟨rfl, h, Below.refl B _⟩
theorem put_any (B b : Nat) (bs : List Value) (c : Int) (w : World) (h : Lib.IsBuilder 122 5 B b bs w) (hlen : bs.length + 1 ≤ 140737488355328) (hBw : B ≤ w.heap.size) :
  Calls Tryz.prog 118 #[.pointer (some ⟨b, 0, none⟩), .int .u8 c] w fun e w' => e = .returned .nilIface ∧ (Lib.IsBuilder 122 5 B b (bs ++ [.int .u8 c]) w' ∧ Below B w w') := by
 obtain ⟨i0, hi, hz0, hz1, hz2⟩ := info_of info5
 go_enter Tryz.func118, Tryz.ntmps118
 go_wp2_with (go_at_call 132; refine (copy_any B b bs _ h).mono ?_)
 rintro e w1 ⟨rfl, h1, hb1⟩; obtain ⟨hB, v, hbk, hown, hne⟩ := h1; have c0 : w1.cell? ⟨b, 0, none⟩ = some (.pointer (some ⟨b, 0, none⟩)) := by rw [Lib.cell_of_heap hbk]; rfl
 have c1 : w1.cell? ⟨b, 1, none⟩ = some v := by rw [Lib.cell_of_heap hbk]; rfl
 go_wp2_with (at_builtin; refine wpList_append_own _ rfl _ _ 27 rfl B 5 i0 (.int .u8 0) 1 1 Tryz.underlying27 hi hz0 hz1 hz2 rfl (by decide) _ _ _ rfl (hown.alloc _) ⟨w1.heap.size, 0, none⟩ 1 1 [.int .u8 c] rfl rfl ?c1 ?c2 ?c3 ?c4 ?c5 ?_)
 case c1 =>
  intro j u hj
  match j, hj with
  | 0, hj => simp at hj; subst hj; simp [Addr.add]
 case c2 => intro u hu; simp at hu; subst hu; rfl
 case c3 => unfold maxLen; omega
 case c4 => omega
 case c5 => have := hb1.size; simp; omega
 intro v' w2 hown' hgrow _; have hlt : b < w1.heap.size := by
  rcases Nat.lt_or_ge b w1.heap.size with h' | h'
  ·
   exact h'
  ·
   simp [Array.getElem?_eq_none h'] at hbk
 have hb2 : w2.heap[b]? = some (.cells #[.pointer (some ⟨b, 0, none⟩), v] 122 (0, 0)) := by
  rw [hgrow.block b (by simp; omega) (fun e => hne e.symm), Lib.alloc_old w1 _ b hlt]
  exact hbk
 have d0 : w2.cell? ⟨b, 0, none⟩ = some (.pointer (some ⟨b, 0, none⟩)) := by rw [Lib.cell_of_heap hb2]; rfl
 have d1 : w2.cell? ⟨b, 1, none⟩ = some v := by rw [Lib.cell_of_heap hb2]; rfl
 have f1 : w2.frozen? ⟨b, 1, none⟩ = false := Lib.frozen_of_heap hb2 1; obtain ⟨g, cap, rfl⟩ : ∃ g cap, v' = .slice (some ⟨g, 0, none⟩) (bs.length + 1) cap := by
  rcases hown'.2 with ⟨_, h0⟩ | ⟨g, cap, cur, hv, _⟩
  ·
   omega
  ·
   exact ⟨g, cap, hv⟩
 go_wp2
 go_ret
 refine ⟨rfl, .inr ?_, ?_⟩
 ·
  exact Lib.BuilderAt.put (T := 122) (e := 5) hB hb2 (bs' := bs ++ [.int .u8 c]) (by simpa using hown') (by decide)
 ·
  exact ((hb1.alloc (by have := hb1.size; omega) _).grown hgrow (by have := hb1.size; simp; omega) (fun k hk => (hown.lt k hk).1)).setCell (p := ⟨b, 1, none⟩) hB _
def sqStep (x : Bool × List UInt8) (c : UInt8) : Bool × List UInt8 :=
 if ((c.toNat : Int) == 32) = true then (true, x.2) else (false, (if (x.1 && decide (0 < (x.2.length : Int))) = true then x.2 ++ [32] else x.2) ++ [c])
def sqAt (l : List UInt8) (k : Nat) : Bool × List UInt8 := (l.take k).foldl sqStep (false, [])
theorem sqAt_succ (l : List UInt8) (k : Nat) (hk : k < l.length) : sqAt l (k + 1) = sqStep (sqAt l k) l[k] := by
 unfold sqAt
 rw [List.take_succ_eq_append_getElem hk, List.foldl_append]; rfl
theorem sqAt_len (l : List UInt8) : ∀ k, k ≤ l.length → (sqAt l k).2.length ≤ 2 * k
 | 0, _ => by simp [sqAt]
 | k + 1, h => by
  have ih := sqAt_len l k (by omega); rw [sqAt_succ l k (by omega)]
  unfold sqStep
  split
  ·
   simp only; omega
  ·
   simp only
   split <;> simp <;> omega
theorem bc_app (l : List UInt8) (c : UInt8) : Lib.byteCells (l ++ [c]) = Lib.byteCells l ++ [.int .u8 (c.toNat : Int)] := by simp [Lib.byteCells]
theorem bc_len (l : List UInt8) : (Lib.byteCells l).length = l.length := by simp [Lib.byteCells]
theorem squeeze_any (s : ByteArray) (hs : s.size ≤ 1000000) (w : World) : Calls Tryz.prog 167 #[.string s] w fun e w' => e = .returned (.string ⟨(sqAt s.data.toList s.size).2.toArray⟩) ∧ Below w.heap.size w w' := by
 obtain ⟨B, hB⟩ : ∃ B, w.heap.size = B := ⟨_, rfl⟩; obtain ⟨r, hr⟩ : ∃ r : ByteArray, (⟨(sqAt s.data.toList s.size).2.toArray⟩ : ByteArray) = r := ⟨_, rfl⟩; have HP := Zh hr.symm; rw [hr]; clear hr; have HF := Zh (Lib.fresh_isBuilder 122 5 w); have HB0 := Zh ((Below.refl w.heap.size w).alloc (Nat.le_refl _) (.cells #[.pointer none, .slice none 0 0] 122)); rw [hB] at HF HB0
 go_enter Tryz.func167, Tryz.ntmps167
 go_wp2
 obtain ⟨W1, hW1⟩ : ∃ W1, w.alloc (.cells #[.pointer none, .slice none 0 0] 122) = W1 := ⟨_, rfl⟩; simp only [hW1] at HF HB0 ⊢; clear hW1
 go_loopw [4, 8] (fun g i wr => ∃ k : Nat, k ≤ s.size ∧ i = .int .i64 (k : Int) ∧ g = .bool (sqAt s.data.toList k).1 ∧ Lib.IsBuilder 122 5 B B (Lib.byteCells (sqAt s.data.toList k).2) wr ∧ Below B w wr) (fun _ i _ => s.size - (intOf i).toNat)
 case atStart => exact ⟨0, Nat.zero_le _, rfl, rfl, HF.out, HB0.out⟩
 case round =>
  obtain ⟨k, hk, rfl, rfl, hi, hb⟩ := hrel; have HI := Zh hi; have HBB := Zh hb; have HBs := Zh (show B ≤ wr.heap.size by have := hb.size; omega); clear hi hb
  by_cases hlt : k < s.size
  ·
   have hkl : k < s.data.toList.length := by simpa using hlt
   have HL := Zh (sqAt_len s.data.toList k (by omega)); obtain ⟨c, hc⟩ : ∃ c, s[k] = c := ⟨_, rfl⟩; have hc8 : (c.toNat : Int) ≤ 255 := by have := c.toNat_lt; omega
   have HS := Zh (show sqAt s.data.toList (k + 1) = sqStep (sqAt s.data.toList k) c from by rw [sqAt_succ _ _ hkl, ← hc]; rfl); obtain ⟨X, hX⟩ : ∃ X, sqAt s.data.toList k = X := ⟨_, rfl⟩; rw [hX] at HS HL HI ⊢; obtain ⟨g, o⟩ := X; simp only at HL HI ⊢; clear hX
   by_cases u1 : ((c.toNat : Int) == 32) = true
   ·
    have HS2 := Zh (show sqAt s.data.toList (k + 1) = (true, o) by rw [HS.out]; unfold sqStep; rw [if_pos u1])
    go_wp2
    exact ⟨⟨k + 1, by omega, by go_num, by rw [HS2.out], by rw [HS2.out]; exact HI.out, HBB.out⟩, by simp [intOf]; omega⟩
   ·
    have u1' : ((c.toNat : Int) == 32) = false := by simpa using u1
    clear u1; have last : ∀ (o2 : List UInt8) (w1 : World), o2.length ≤ 2 * k + 1 → B ≤ w1.heap.size → Lib.IsBuilder 122 5 B B (Lib.byteCells o2) w1 → Calls Tryz.prog 118 #[.pointer (some ⟨B, 0, none⟩), .int .u8 (c.toNat : Int)] w1 fun e w' => e = .returned .nilIface ∧ Lib.IsBuilder 122 5 B B (Lib.byteCells (o2 ++ [c])) w' ∧ Below B w1 w' := by
     intro o2 w1 h1 h2 h3; refine (put_any B B _ (c.toNat : Int) w1 h3 (by rw [bc_len]; omega) h2).mono ?_; rintro e w' ⟨rfl, h4, h5⟩
     exact ⟨rfl, by rw [bc_app]; exact h4, h5⟩
    have LAST := Zh last; clear last
    cases g with
    | false =>
     have HS2 := Zh (show sqAt s.data.toList (k + 1) = (false, o ++ [c]) by rw [HS.out]; unfold sqStep; rw [if_neg (by rw [u1']; decide)]; rfl)
     go_wp2_with (go_at_call 118; refine (LAST.out o _ (by have := HL.out; omega) HBs.out HI.out).mono ?_)
     rintro e w2 ⟨rfl, h1, h2⟩; have HI2 := Zh h1; have HB2 := Zh (HBB.out.trans h2); clear h1 h2
     go_wp2
     exact ⟨⟨k + 1, by omega, by go_num, by rw [HS2.out], by rw [HS2.out]; exact HI2.out, HB2.out⟩, by simp [intOf]; omega⟩
    | true =>
     have hLen := Tryz.Builder_Len B B _ _ HI.out; rw [bc_len] at hLen; have HLn := Zh hLen; clear hLen
     by_cases u3 : 0 < (o.length : Int)
     ·
      have HS2 := Zh (show sqAt s.data.toList (k + 1) = (false, (o ++ [32]) ++ [c]) by rw [HS.out]; unfold sqStep; rw [if_neg (by rw [u1']; decide)]; simp only [Bool.true_and]; rw [if_pos (by simpa using u3)])
      go_wp2_with (go_at_call 184; refine HLn.out.mono ?_)
      rintro e w1 ⟨rfl, rfl⟩
      go_wp2_with (go_at_call 118; refine (put_any B B _ 32 _ HI.out (by rw [bc_len]; have := HL.out; omega) HBs.out).mono ?_)
      rintro e w2 ⟨rfl, h1, h2⟩; have HI2 := Zh (show Lib.IsBuilder 122 5 B B (Lib.byteCells (o ++ [32])) w2 by rw [bc_app]; exact h1); have HB2 := Zh (HBB.out.trans h2); have HBt := Zh (Nat.le_trans HBs.out h2.size); clear h1 h2
      go_wp2_with (go_at_call 118; refine (LAST.out (o ++ [32]) _ (by have := HL.out; simp; omega) HBt.out HI2.out).mono ?_)
      rintro e w3 ⟨rfl, h1, h2⟩; have HI3 := Zh h1; have HB3 := Zh (HB2.out.trans h2); clear h1 h2
      go_wp2
      exact ⟨⟨k + 1, by omega, by go_num, by rw [HS2.out], by rw [HS2.out]; exact HI3.out, HB3.out⟩, by simp [intOf]; omega⟩
     ·
      obtain rfl : o = [] := by
       cases o with
       | nil => rfl
       | cons x y => exact absurd (by simp) u3
      have HS2 := Zh (show sqAt s.data.toList (k + 1) = (false, [] ++ [c]) by rw [HS.out]; unfold sqStep; rw [if_neg (by rw [u1']; decide)]; rfl); clear u3
      go_wp2_with (go_at_call 184; refine HLn.out.mono ?_)
      rintro e w1 ⟨rfl, rfl⟩
      go_wp2_with (go_at_call 118; refine (LAST.out [] _ (by have := HL.out; omega) HBs.out HI.out).mono ?_)
      rintro e w2 ⟨rfl, h1, h2⟩; have HI2 := Zh h1; have HB2 := Zh (HBB.out.trans h2); clear h1 h2
      go_wp2
      exact ⟨⟨k + 1, by omega, by go_num, by rw [HS2.out], by rw [HS2.out]; exact HI2.out, HB2.out⟩, by simp [intOf]; omega⟩
  ·
   have hks : k = s.size := by omega
   subst hks; obtain ⟨o, ho⟩ : ∃ o, (sqAt s.data.toList s.size).2 = o := ⟨_, rfl⟩; obtain ⟨gg, hgg⟩ : ∃ gg, (sqAt s.data.toList s.size).1 = gg := ⟨_, rfl⟩; rw [ho] at HI HP; rw [hgg]; clear ho hgg
   go_wp2_with (go_at_call 119; refine (Tryz.Builder_String_any B B _ _ HI.out HBs.out).mono ?_)
   rintro e w2 ⟨rfl, h2⟩; have HB2 := Zh (HBB.out.trans h2); clear h2
   go_wp2
   go_ret
   exact ⟨by rw [HP.out]; rfl, (by rw [hB]; exact HB2.out)⟩
def ctl (c : UInt8) : Bool := decide ((c.toNat : Int) < 32) || (c.toNat : Int) == 127
theorem controls_any (s : ByteArray) (hs : s.size ≤ 1000000) (w : World) : Calls Tryz.prog 166 #[.string s] w fun e w' => e = .returned (.bool (s.data.toList.any ctl)) ∧ w' = w := by
 obtain ⟨r, hr⟩ : ∃ r, s.data.toList.any ctl = r := ⟨_, rfl⟩; have HR := Zh hr; rw [hr]; clear hr
 go_enter Tryz.func166, Tryz.ntmps166
 go_wp2
 go_loopw [6] (fun i wr => ∃ k : Nat, k ≤ s.size ∧ i = .int .i64 (k : Int) ∧ wr = w ∧ (s.data.toList.take k).any ctl = false) (fun i _ => s.size - (intOf i).toNat)
 case atStart => exact ⟨0, Nat.zero_le _, rfl, rfl, by simp⟩
 case round =>
  obtain ⟨k, hk, rfl, rfl, hno⟩ := hrel; have HN := Zh hno; clear hno
  by_cases hlt : k < s.size
  ·
   have hkl : k < s.data.toList.length := by simpa using hlt
   obtain ⟨c, hc⟩ : ∃ c, s[k] = c := ⟨_, rfl⟩; have hc8 : (c.toNat : Int) ≤ 255 := by have := c.toNat_lt; omega
   have HC := Zh (show s.data.toList[k] = c from by rw [← hc]; rfl); have HM := Zh (show c ∈ s.data.toList from by rw [← HC.out]; exact List.getElem_mem _); have HT := Zh (show (s.data.toList.take (k + 1)).any ctl = ((s.data.toList.take k).any ctl || ctl c) from by
    rw [List.take_succ_eq_append_getElem hkl, List.any_append, HC.out]; simp)
   by_cases u1 : (c.toNat : Int) < 32
   ·
    have e := Zh (show r = true by
     rw [← HR.out, List.any_eq_true]; exact ⟨c, HM.out, by unfold ctl; simp only [u1, decide_true, Bool.true_or]⟩)
    go_wp2
    go_ret
    exact ⟨by rw [e.out]; rfl, rfl⟩
   ·
    have u1' : decide ((c.toNat : Int) < 32) = false := by simpa using u1
    by_cases u2 : (c.toNat : Int) = 127
    ·
     have u2' : ((c.toNat : Int) == 127) = true := by rw [u2]; rfl
     have e := Zh (show r = true by
      rw [← HR.out, List.any_eq_true]; exact ⟨c, HM.out, by unfold ctl; simp only [u2', Bool.or_true]⟩)
     clear u2
     go_wp2
     go_ret
     exact ⟨by rw [e.out]; rfl, rfl⟩
    ·
     have u2' : ((c.toNat : Int) == 127) = false := by simpa using u2
     have HN2 := Zh (show (s.data.toList.take (k + 1)).any ctl = false by
      rw [HT.out, HN.out]; unfold ctl; rw [u1', u2']; rfl)
     clear u2
     go_wp2
     exact ⟨⟨k + 1, by omega, by go_num, trivial, HN2.out⟩, by simp [intOf]; omega⟩
  ·
   have hks : k = s.size := by omega
   subst hks; have e := Zh (show r = false by
    rw [← HR.out, ← HN.out, List.take_of_length_le (by simp)])
   go_wp2
   go_ret
   exact ⟨by rw [e.out]; rfl, rfl⟩
def squeezeS (s : ByteArray) : ByteArray := ⟨(sqAt s.data.toList s.size).2.toArray⟩
def cleanOf (v c : Bool) (t : ByteArray) : ByteArray × Int :=
 if (!v || c) = true then (⟨#[]⟩, 1) else if t = ⟨#[]⟩ then (⟨#[]⟩, 14) else if 64 < (t.size : Int) then (⟨#[]⟩, 2) else (t, 0)
def cleanS (s : ByteArray) : ByteArray × Int := cleanOf (Lib.validD s.data.toList) (s.data.toList.any ctl) (squeezeS s)
theorem clean_any (s : ByteArray) (hs : s.size ≤ 1000000) (w : World) (hT : Tabs w) : Calls Tryz.prog 143 #[.string s] w fun e w' => e = .returned (.tuple #[.string (cleanS s).1, .int .i64 (cleanS s).2]) ∧ Below w.heap.size w w' := by
 have hV := Tryz.utf8_ValidString s w (by omega) hT; have hC := controls_any s hs; have hS : ∀ w, Calls Tryz.prog 167 #[.string s] w fun e w' => e = .returned (.string (squeezeS s)) ∧ Below w.heap.size w w' := fun w => squeeze_any s hs w
 unfold cleanS
 obtain ⟨v, hv⟩ : ∃ v, Lib.validD s.data.toList = v := ⟨_, rfl⟩; obtain ⟨c, hc⟩ : ∃ c, s.data.toList.any ctl = c := ⟨_, rfl⟩; obtain ⟨t, ht⟩ : ∃ t, squeezeS s = t := ⟨_, rfl⟩; simp only [hv, hc, ht] at hV hC hS ⊢; have HV := Zh hV; have HC := Zh hC; have HS := Zh hS; clear hV hC hS hv hc ht; obtain ⟨r, hr⟩ : ∃ r, cleanOf v c t = r := ⟨_, rfl⟩; rw [hr]; have HR := Zh (show r = if (!v || c) = true then (⟨#[]⟩, 1) else if t = ⟨#[]⟩ then (⟨#[]⟩, 14) else if 64 < (t.size : Int) then (⟨#[]⟩, 2) else (t, 0) by rw [← hr]; rfl); clear hr
 go_enter Tryz.func143, Tryz.ntmps143
 go_wp2_with (go_at_call 165; refine HV.out.mono ?_)
 rintro e w1 ⟨rfl, h1⟩; have HB1 := Zh h1; clear h1 HV
 cases v with
 | false =>
  have e := Zh (show r = (⟨#[]⟩, 1) by rw [HR.out]; rfl)
  go_wp2
  go_ret2
  exact ⟨by rw [e.out]; rfl, HB1.out⟩
 | true =>
  go_wp2_with (go_at_call 166; refine (HC.out _).mono ?_)
  rintro e w2 ⟨rfl, rfl⟩
  cases c with
  | true =>
   have e := Zh (show r = (⟨#[]⟩, 1) by rw [HR.out]; rfl)
   go_wp2
   go_ret2
   exact ⟨by rw [e.out]; rfl, HB1.out⟩
  | false =>
   go_wp2_with (go_at_call 167; refine (HS.out _).mono ?_)
   rintro e w3 ⟨rfl, h3⟩; have HB3 := Zh (HB1.out.trans (h3.mono HB1.out.size)); clear h3
   by_cases t0 : t = ⟨#[]⟩
   ·
    subst t0; have e := Zh (show r = (⟨#[]⟩, 14) by rw [HR.out]; rfl)
    go_wp2
    go_ret2
    exact ⟨by rw [e.out]; rfl, HB3.out⟩
   ·
    have t1 : t.data.toList.isEmpty = false := by
     cases h : t.data.toList with
     | nil => exact absurd (bs_ext (by rw [h])) t0
     | cons x y => rfl
    have t2 : t.toList.isEmpty = false := by rw [ByteArray.toList_eq]; exact t1
    by_cases t3 : 64 < (t.size : Int)
    ·
     have e := Zh (show r = (⟨#[]⟩, 2) by rw [HR.out, if_neg (by decide), if_neg t0, if_pos t3]); clear HR t0
     go_wp2
     go_ret2
     exact ⟨by rw [e.out]; rfl, HB3.out⟩
    ·
     have e := Zh (show r = (t, 0) by rw [HR.out, if_neg (by decide), if_neg t0, if_neg t3]); clear HR t0
     go_wp2
     go_ret2
     exact ⟨by rw [e.out]; rfl, HB3.out⟩
def isB (c : UInt8) : Bool := (c.toNat : Int) == 32
theorem isB_iff (c : UInt8) : isB c = true ↔ c = 32 := by
 unfold isB
 constructor
 ·
  intro h; have h : (c.toNat : Int) = 32 := by simpa using h
  exact UInt8.toNat_inj.1 (by show c.toNat = 32; omega)
 ·
  rintro rfl; rfl
def run (x : Bool × List UInt8) (l : List UInt8) : Bool × List UInt8 := l.foldl sqStep x
def sq (l : List UInt8) : List UInt8 := (run (false, []) l).2
theorem squeezeS_sq (s : ByteArray) : squeezeS s = ⟨(sq s.data.toList).toArray⟩ := by
 unfold squeezeS sqAt sq run
 rw [List.take_of_length_le (by simp)]
theorem run_app (x : Bool × List UInt8) (l m : List UInt8) : run x (l ++ m) = run (run x l) m := by unfold run; rw [List.foldl_append]
theorem run_cons (x : Bool × List UInt8) (c : UInt8) (m : List UInt8) : run x (c :: m) = run (sqStep x c) m := rfl
theorem step_b (x : Bool × List UInt8) : sqStep x 32 = (true, x.2) := by unfold sqStep; rw [if_pos (by decide)]
theorem step_n (x : Bool × List UInt8) (c : UInt8) (h : c ≠ 32) : sqStep x c = (false, (if x.1 = true ∧ x.2 ≠ [] then x.2 ++ [32] else x.2) ++ [c]) := by
 unfold sqStep
 rw [if_neg (show ¬ ((c.toNat : Int) == 32) = true from fun e => h ((isB_iff c).1 e))]
 congr 2
 by_cases e : x.2 = []
 ·
  rw [e]; simp
 ·
  have : 0 < x.2.length := List.length_pos_iff.2 e
  cases x.1 <;> simp [e, this]
theorem run_self : ∀ (l : List UInt8) (g : Bool) (o : List UInt8), run (false, []) o = (false, o) → run (false, []) (run (g, o) l).2 = (false, (run (g, o) l).2)
 | [], _, _, h => h
 | c :: l, g, o, h => by
  rw [run_cons]
  by_cases hc : c = 32
  ·
   subst hc; rw [step_b]; exact run_self l _ _ h
  ·
   rw [step_n _ _ hc]; refine run_self l _ _ ?_
   simp only
   by_cases hg : g = true ∧ o ≠ []
   ·
    rw [if_pos hg, run_app, run_app, h]
    show sqStep (sqStep (false, o) 32) c = _
    rw [step_b, step_n _ _ hc]
    simp only
    rw [if_pos ⟨trivial, hg.2⟩]
   ·
    rw [if_neg hg, run_app, h]
    show sqStep (false, o) c = _
    rw [step_n _ _ hc]; rw [if_neg (by simp)]
theorem sq_sq (l : List UInt8) : sq (sq l) = sq l := by
 have := run_self l false [] rfl
 unfold sq
 rw [this]
theorem run_mem : ∀ (l : List UInt8) (g : Bool) (o : List UInt8) (c : UInt8), c ∈ (run (g, o) l).2 → c ∈ o ∨ c ∈ l ∨ c = 32
 | [], _, _, _, h => .inl h
 | d :: l, g, o, c, h => by
  rw [run_cons] at h
  by_cases hd : d = 32
  ·
   subst hd; rw [step_b] at h
   rcases run_mem l _ _ c h with h | h | h
   ·
    exact .inl h
   ·
    exact .inr (.inl (List.mem_cons.2 (.inr h)))
   ·
    exact .inr (.inr h)
  ·
   rw [step_n _ _ hd] at h
   rcases run_mem l _ _ c h with h | h | h
   ·
    simp only at h
    split at h
    ·
     simp only [List.mem_append, List.mem_singleton] at h
     rcases h with (h | h) | h
     ·
      exact .inl h
     ·
      exact .inr (.inr h)
     ·
      exact .inr (.inl (by rw [h]; exact List.mem_cons_self))
    ·
     simp only [List.mem_append, List.mem_singleton] at h
     rcases h with h | h
     ·
      exact .inl h
     ·
      exact .inr (.inl (by rw [h]; exact List.mem_cons_self))
   ·
    exact .inr (.inl (List.mem_cons.2 (.inr h)))
   ·
    exact .inr (.inr h)
theorem sq_ctl (l : List UInt8) (h : l.any ctl = false) : (sq l).any ctl = false := by
 rw [List.any_eq_false] at h ⊢; intro c hc
 rcases run_mem l false [] c hc with h1 | h1 | h1
 ·
  simp at h1
 ·
  exact h c h1
 ·
  subst h1; decide
end Go.Proofs.YtphijnkiiokieaaGreatDoor
