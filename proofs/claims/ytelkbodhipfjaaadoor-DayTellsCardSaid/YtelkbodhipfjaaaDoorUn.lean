/- DayUntil: its walk. -/
import Derived.Test.YtelkbodhipfjaaaDoorNx
namespace Go.Proofs.YtelkbodhipfjaaaDoor
open Go.RowKit
set_option linter.unusedVariables false
set_option maxRecDepth 20000
attribute [local go_sem ↓] Go.wp_at_zero Go.wp_at_succ
/-- Three dates in boxes of the call's own. -/
structure Bx3 (w0 wr : World) (B T C : Nat) (y m d ty tm td ny nm nd : Int) : Prop where
  one : Blk wr B 23 #[.int .i64 y, .int .i64 m, .int .i64 d]
  tod : Blk wr T 23 #[.int .i64 ty, .int .i64 tm, .int .i64 td]
  two : Blk wr C 23 #[.int .i64 ny, .int .i64 nm, .int .i64 nd]
  bel : Below w0.heap.size w0 wr
section
variable {w0 wr w' : World} {B T C : Nat} {y m d ty tm td ny nm nd : Int}
theorem Bx3.step (h : Bx3 w0 wr B T C y m d ty tm td ny nm nd) (hb : Below wr.heap.size wr w') : Bx3 w0 w' B T C y m d ty tm td ny nm nd :=
  ⟨h.one.below hb h.one.lt, h.tod.below hb h.tod.lt, h.two.below hb h.two.lt, h.bel.trans (hb.mono h.bel.size)⟩
theorem Bx3.one3 (h : Bx3 w0 wr B T C y m d ty tm td ny nm nd) : wr.cell? ⟨B, 0, none⟩ = some (.int .i64 y) ∧ wr.cell? ⟨B, 1, none⟩ = some (.int .i64 m) ∧ wr.cell? ⟨B, 2, none⟩ = some (.int .i64 d) := ⟨h.one.cell 0, h.one.cell 1, h.one.cell 2⟩
theorem Bx3.tod3 (h : Bx3 w0 wr B T C y m d ty tm td ny nm nd) : wr.cell? ⟨T, 0, none⟩ = some (.int .i64 ty) ∧ wr.cell? ⟨T, 1, none⟩ = some (.int .i64 tm) ∧ wr.cell? ⟨T, 2, none⟩ = some (.int .i64 td) := ⟨h.tod.cell 0, h.tod.cell 1, h.tod.cell 2⟩
theorem Bx3.two3 (h : Bx3 w0 wr B T C y m d ty tm td ny nm nd) : wr.cell? ⟨C, 0, none⟩ = some (.int .i64 ny) ∧ wr.cell? ⟨C, 1, none⟩ = some (.int .i64 nm) ∧ wr.cell? ⟨C, 2, none⟩ = some (.int .i64 nd) := ⟨h.two.cell 0, h.two.cell 1, h.two.cell 2⟩
theorem Bx3.two4 (h : Bx3 w0 wr B T C y m d ty tm td ny nm nd) : wr.frozen? ⟨C, 0, none⟩ = false ∧ wr.frozen? ⟨C, 1, none⟩ = false ∧ wr.frozen? ⟨C, 2, none⟩ = false := ⟨h.two.frozen 0, h.two.frozen 1, h.two.frozen 2⟩
theorem Bx3.put (h : Bx3 w0 wr B T C y m d ty tm td ny nm nd) (hBC : B ≠ C) (hTC : T ≠ C) (hC : w0.heap.size ≤ C) (a b c : Int) : Bx3 w0 (((wr.setCell ⟨C, 0, none⟩ (.int .i64 a)).setCell ⟨C, 1, none⟩ (.int .i64 b)).setCell ⟨C, 2, none⟩ (.int .i64 c)) B T C y m d ty tm td a b c :=
  ⟨((h.one.far (p := ⟨C, 0, none⟩) hBC _).far (p := ⟨C, 1, none⟩) hBC _).far (p := ⟨C, 2, none⟩) hBC _, ((h.tod.far (p := ⟨C, 0, none⟩) hTC _).far (p := ⟨C, 1, none⟩) hTC _).far (p := ⟨C, 2, none⟩) hTC _, Blk3.put h.two _ _ _, Blk3.bel h.bel hC _ _ _⟩
theorem Bx3.drewN (h : Bx3 w0 wr B T C y m d ty tm td ny nm nd) (n : Nat) : Bx3 w0 (wr.drewN n) B T C y m d ty tm td ny nm nd := ⟨h.one.drewN n, h.tod.drewN n, h.two.drewN n, below_drewN h.bel n⟩
/-- A new box beside the first two. -/
theorem Bx3.new (h : Bx3 w0 wr B T C y m d ty tm td ny nm nd) (a b c : Int) : Bx3 w0 (wr.alloc (.cells #[.int .i64 a, .int .i64 b, .int .i64 c] 23)) B T wr.heap.size y m d ty tm td a b c :=
  ⟨h.one.alloc _, h.tod.alloc _, Blk.new _ _ _, h.bel.alloc h.bel.size _⟩
end
theorem Bx3.start (w : World) (y m d ty tm td : Int) : Bx3 w ((w.alloc (.cells #[.int .i64 y, .int .i64 m, .int .i64 d] 23)).alloc (.cells #[.int .i64 ty, .int .i64 tm, .int .i64 td] 23)) w.heap.size (w.heap.size + 1) w.heap.size y m d ty tm td y m d :=
  ⟨(Blk.new w 23 _).alloc _, by have := Blk.new (w.alloc (.cells #[.int .i64 y, .int .i64 m, .int .i64 d] 23)) 23 #[.int .i64 ty, .int .i64 tm, .int .i64 td]; simpa using this, (Blk.new w 23 _).alloc _, ((Below.refl _ _).alloc (Nat.le_refl _) _).alloc (by simp) _⟩
/-- The day that is meant in year z. -/
def keptM (m d z : Int) : Int := if mayB z m d = true then m else 3
def keptD (m d z : Int) : Int := if mayB z m d = true then d else 1
theorem leap_feb {z : Int} (h : mayB z 2 29 = true) (h0 : 1 ≤ z) : leapB z = true := by
  rcases dim2 h0 with ⟨hl, hd⟩ | ⟨hl, hd⟩
  · exact hl
  · have := may_iff.1 h; omega
/-- A day of some year is one of year z, but the 29th of February of a year that has none. -/
theorem kept_in {y m d z : Int} (h : mayB y m d = true) (h1 : 1 ≤ z) (h2 : z ≤ 9999) : inM m d z = keptM m d z ∧ inD m d z = keptD m d z := by
  obtain ⟨a1, a2, a3, a4, a5, a6⟩ := may_iff.1 h
  unfold inM inD keptM keptD
  by_cases hm : m = 2
  · subst hm
    have hd29 : dim y 2 ≤ 29 := by unfold dim; rw [if_pos rfl]; split <;> omega
    rcases dim2 h1 with ⟨hl, hd⟩ | ⟨hl, hd⟩
    · have hk : mayB z 2 d = true := may_iff.2 ⟨by omega, h2, by omega, by omega, a5, by omega⟩
      rw [if_neg (by rw [hl]; simp), if_pos hk, if_neg (by rw [hl]; simp), if_pos hk]; exact ⟨rfl, rfl⟩
    · by_cases h29 : d = 29
      · subst h29
        have hk : ¬ mayB z 2 29 = true := fun hk => by have := leap_feb hk h1; rw [hl] at this; cases this
        rw [if_pos ⟨rfl, rfl, hl⟩, if_neg hk, if_pos ⟨rfl, rfl, hl⟩, if_neg hk]; exact ⟨rfl, rfl⟩
      · have hk : mayB z 2 d = true := may_iff.2 ⟨by omega, h2, by omega, by omega, a5, by omega⟩
        rw [if_neg (by omega), if_pos hk, if_neg (by omega), if_pos hk]; exact ⟨rfl, rfl⟩
  · have hdim : dim z m = dim y m := by unfold dim; rw [if_neg hm, if_neg hm]
    have hk : mayB z m d = true := may_iff.2 ⟨by omega, h2, a3, a4, a5, by omega⟩
    rw [if_neg (by omega), if_pos hk, if_neg (by omega), if_pos hk]; exact ⟨rfl, rfl⟩
theorem kept_may {y m d z : Int} (h : mayB y m d = true) (h1 : 1 ≤ z) (h2 : z ≤ 9999) : mayB z (keptM m d z) (keptD m d z) = true := by
  unfold keptM keptD
  split
  · next h => exact h
  · have := (dim_val z).2.1
    exact may_iff.2 ⟨by omega, h2, by omega, by omega, by omega, by omega⟩
theorem at_kept {y m d z : Int} (h : mayB y m d = true) (h1 : 1 ≤ z) (h2 : z ≤ 9999) : atY m d z = cnt z (keptM m d z) (keptD m d z) := by
  obtain ⟨e1, e2⟩ := kept_in h h1 h2
  unfold atY
  rw [e1, e2]
theorem cum_mono (y : Int) {a b : Nat} (h : a ≤ b) : cumN y a ≤ cumN y b := by
  induction b with
  | zero => rw [show a = 0 by omega]; omega
  | succ b ih =>
    by_cases hb : a = b + 1
    · rw [hb]; omega
    · have := ih (by omega)
      have := dim_bd y ((b : Int) + 1)
      simp only [cumN]; omega
theorem cum_diff (y z : Int) (k : Nat) (h : 2 ≤ k) : cumN y k - dim y 2 = cumN z k - dim z 2 := by
  induction k with
  | zero => omega
  | succ k ih =>
    by_cases h2 : k = 1
    · subst h2
      have := (dim_val y).1
      have := (dim_val z).1
      simp [cumN]; omega
    · have := ih (by omega)
      have hd : dim y ((k : Int) + 1) = dim z ((k : Int) + 1) := by unfold dim; simp only [if_neg (show ¬ (k : Int) + 1 = 2 by omega)]
      simp only [cumN]; omega
theorem base_next (z : Int) (h1 : 1 ≤ z) (h2 : z ≤ 9999) : (leapB z = true ∧ base (z + 1) = base z + 366) ∨ (leapB z = false ∧ base (z + 1) = base z + 365) := by
  cases hl : leapB z
  · right
    have := mt leap_iff.2 (show ¬ leapB z = true by rw [hl]; simp)
    refine ⟨rfl, ?_⟩
    unfold base; omega
  · left
    have := leap_iff.1 hl
    refine ⟨rfl, ?_⟩
    unfold base; omega
theorem cnt_in {z m d : Int} (h : mayB z m d = true) (h1 : 1 ≤ z) : base z ≤ cnt z m d ∧ cnt z m d < base (z + 1) ∧ cnt z m d ≤ base z + 365 := by
  rw [cnt_may h h1]
  obtain ⟨a1, a2, a3, a4, a5, a6⟩ := may_iff.1 h
  obtain ⟨k, rfl⟩ : ∃ k : Nat, m = (k : Int) + 1 := ⟨(m - 1).toNat, by omega⟩
  rw [show ((k : Int) + 1 - 1).toNat = k by omega]
  have c0 := cum_bd z k
  have c1 : cumN z (k + 1) ≤ cumN z 12 := cum_mono z (by omega)
  have c2 : cumN z 12 = cumN z 11 + dim z 12 := rfl
  have c3 := cum11 z
  have c4 := (dim_val z).2.2.2.2.2.2.2.2.2.2
  simp only [cumN] at c1
  rcases base_next z h1 a2 with ⟨hl, hb⟩ | ⟨hl, hb⟩ <;> rcases dim2 h1 with ⟨hl2, hd⟩ | ⟨hl2, hd⟩
  · simp only [cumN] at c2 c3; omega
  · rw [hl] at hl2; cases hl2
  · rw [hl] at hl2; cases hl2
  · simp only [cumN] at c2 c3; omega
theorem kept_cnt {y m d z : Int} (h : mayB y m d = true) (h1 : 1 ≤ z) (h2 : z ≤ 9999) : cnt z (keptM m d z) (keptD m d z) = base z + cumN z (m - 1).toNat + d - 1 := by
  have hk := kept_may h h1 h2
  unfold keptM keptD at hk ⊢
  by_cases hm : mayB z m d = true
  · rw [if_pos hm, if_pos hm, cnt_may hm h1]
  · rw [if_neg hm, if_neg hm] at hk ⊢
    rw [cnt_may hk h1]
    obtain ⟨a1, a2, a3, a4, a5, a6⟩ := may_iff.1 h
    by_cases m2 : m = 2
    · subst m2
      have hd29 : dim y 2 ≤ 29 := by unfold dim; rw [if_pos rfl]; split <;> omega
      rcases dim2 h1 with ⟨hl, hd⟩ | ⟨hl, hd⟩
      · exact absurd (may_iff.2 ⟨by omega, h2, by omega, by omega, a5, by omega⟩) hm
      · by_cases h29 : d = 29
        · have d1 := (dim_val z).1
          have e1 : cumN z 1 = 31 := by simp [cumN, d1]
          have e2 : cumN z 2 = 31 + 28 := by simp [cumN, d1, hd]
          rw [show ((3 : Int) - 1).toNat = 2 by decide, show ((2 : Int) - 1).toNat = 1 by decide, e1, e2, h29]; omega
        · exact absurd (may_iff.2 ⟨by omega, h2, by omega, by omega, a5, by omega⟩) hm
    · have hdim : dim z m = dim y m := by unfold dim; rw [if_neg m2, if_neg m2]
      exact absurd (may_iff.2 ⟨by omega, h2, a3, a4, a5, by omega⟩) hm
theorem kept_year {y m d z : Int} (h : mayB y m d = true) (h1 : 1 ≤ z) (h2 : z + 1 ≤ 9999) : cnt (z + 1) (keptM m d (z + 1)) (keptD m d (z + 1)) ≤ cnt z (keptM m d z) (keptD m d z) + 366 := by
  rw [kept_cnt h h1 (by omega), kept_cnt h (by omega) h2]
  obtain ⟨a1, a2, a3, a4, a5, a6⟩ := may_iff.1 h
  rcases (by omega : m = 1 ∨ m = 2 ∨ 3 ≤ m) with rfl | rfl | m3
  · have := base_next z h1 (by omega)
    rw [show ((1 : Int) - 1).toNat = 0 by decide]
    simp only [cumN]; omega
  · have := base_next z h1 (by omega)
    have d1 := (dim_val z).1
    have d2 := (dim_val (z + 1)).1
    rw [show ((2 : Int) - 1).toNat = 1 by decide]
    have e1 : cumN z 1 = 31 := by simp [cumN, d1]
    have e2 : cumN (z + 1) 1 = 31 := by simp [cumN, d2]
    omega
  · have hc := cum_diff z (z + 1) (m - 1).toNat (by omega)
    rcases base_next z h1 (by omega) with ⟨hl, hb⟩ | ⟨hl, hb⟩ <;> rcases dim2 h1 with ⟨hl2, hd⟩ | ⟨hl2, hd⟩ <;> rcases dim2 (y := z + 1) (by omega) with ⟨hl3, hd3⟩ | ⟨hl3, hd3⟩
    all_goals first | omega | (rw [hl] at hl2; cases hl2)
/-- What Until answers where both are days. -/
theorem untl_day {y m d ty tm td : Int} (h : mayB y m d = true) (ht : mayB ty tm td = true) (h1 : 1 ≤ ty) :
    (cnt ty tm td ≤ cnt ty (keptM m d ty) (keptD m d ty) ∧ untl y m d ty tm td = cnt ty (keptM m d ty) (keptD m d ty) - cnt ty tm td ∧ 0 ≤ untl y m d ty tm td ∧ untl y m d ty tm td ≤ 366) ∨
    (¬ cnt ty tm td ≤ cnt ty (keptM m d ty) (keptD m d ty) ∧ ty + 1 ≤ 9999 ∧ untl y m d ty tm td = cnt (ty + 1) (keptM m d (ty + 1)) (keptD m d (ty + 1)) - cnt ty tm td ∧ 0 ≤ untl y m d ty tm td ∧ untl y m d ty tm td ≤ 366) ∨
    (¬ cnt ty tm td ≤ cnt ty (keptM m d ty) (keptD m d ty) ∧ ty = 9999 ∧ untl y m d ty tm td = -1) := by
  obtain ⟨t1, t2, _⟩ := may_iff.1 ht
  have hn := cnt_nn ht h1
  have hin := cnt_in ht h1
  have e0 := at_kept h h1 t2
  have i0 := cnt_in (kept_may h h1 t2) h1
  by_cases c : cnt ty tm td ≤ cnt ty (keptM m d ty) (keptD m d ty)
  · left
    have e : untl y m d ty tm td = cnt ty (keptM m d ty) (keptD m d ty) - cnt ty tm td := by
      unfold untl
      rw [if_neg (by rw [h]; simp; omega), e0, if_pos c]
    exact ⟨c, e, by omega, by omega⟩
  · right
    by_cases hy : ty + 1 ≤ 9999
    · left
      have e1 := at_kept h (show 1 ≤ ty + 1 by omega) hy
      have i1 := cnt_in (kept_may h (show 1 ≤ ty + 1 by omega) hy) (by omega)
      have i2 := kept_year h h1 hy
      have e : untl y m d ty tm td = cnt (ty + 1) (keptM m d (ty + 1)) (keptD m d (ty + 1)) - cnt ty tm td := by
        unfold untl
        rw [if_neg (by rw [h]; simp; omega), e0, if_neg c, e1, if_pos ⟨hy, by omega⟩]
      exact ⟨c, hy, e, by omega, by omega⟩
    · right
      refine ⟨c, by omega, ?_⟩
      unfold untl
      rw [if_neg (by rw [h]; simp; omega), e0, if_neg c, if_neg (fun h => hy h.1)]
end Go.Proofs.YtelkbodhipfjaaaDoor
