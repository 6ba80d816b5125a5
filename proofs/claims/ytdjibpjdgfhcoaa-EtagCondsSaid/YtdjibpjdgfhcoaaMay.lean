/- Conditions. -/
import Derived.Test.YtdjibpjdgfhcoaaTag
namespace Go.Proofs.Ytdjibpjdgfhcoaa
open Go.RowKit
set_option linter.unusedVariables false
def mayB (k v : Int) : Bool := if k = 0 ∨ k = 1 ∨ k = 2 then v == 0 else if k = 3 then decide (1 ≤ v) else false
theorem kinds (k : Int) : k = 0 ∨ k = 1 ∨ k = 2 ∨ k = 3 ∨ ((k == 0) = false ∧ (k == 1) = false ∧ (k == 2) = false ∧ (k == 3) = false ∧ ∀ v, mayB k v = false) := by
  by_cases h0 : k = 0
  · exact .inl h0
  by_cases h1 : k = 1
  · exact .inr (.inl h1)
  by_cases h2 : k = 2
  · exact .inr (.inr (.inl h2))
  by_cases h3 : k = 3
  · exact .inr (.inr (.inr (.inl h3)))
  · exact .inr (.inr (.inr (.inr ⟨by simpa using h0, by simpa using h1, by simpa using h2, by simpa using h3, fun v => by simp [mayB, h0, h1, h2, h3]⟩)))
set_option maxHeartbeats 400000 in
theorem may_any (k v : Int) (w : World) : Calls Try.prog 16 #[.agg #[.int .i64 k, .int .i64 v]] w fun e w' => e = .returned (.bool (mayB k v)) ∧ Below w.heap.size w w' := by
  rcases kinds k with rfl | rfl | rfl | rfl | ⟨h0, h1, h2, h3, hm⟩
  · go_enter Try.func16, Try.ntmps16
    go_wp2
    all_goals go_ret
    all_goals exact ⟨by first | rfl | (simp [mayB]; done), by go_grown⟩
  · go_enter Try.func16, Try.ntmps16
    go_wp2
    all_goals go_ret
    all_goals exact ⟨by first | rfl | (simp [mayB]; done), by go_grown⟩
  · go_enter Try.func16, Try.ntmps16
    go_wp2
    all_goals go_ret
    all_goals exact ⟨by first | rfl | (simp [mayB]; done), by go_grown⟩
  · go_enter Try.func16, Try.ntmps16
    go_wp2
    all_goals go_ret
    all_goals exact ⟨by first | rfl | (simp [mayB]; done), by go_grown⟩
  · have HM := Lib.hid hm
    clear hm
    go_enter Try.func16, Try.ntmps16
    go_wp2
    all_goals go_ret
    all_goals exact ⟨ret_bool (HM.out v).symm, by go_grown⟩
set_option maxHeartbeats 400000 in
theorem rmay_any (k v : Int) (w : World) : Calls Try.prog 17 #[.agg #[.int .i64 k, .int .i64 v]] w fun e w' => e = .returned (.bool (mayB k v)) ∧ Below w.heap.size w w' := by
  rcases kinds k with rfl | rfl | rfl | rfl | ⟨h0, h1, h2, h3, hm⟩
  · go_enter Try.func17, Try.ntmps17
    go_wp2
    all_goals go_ret
    all_goals exact ⟨by first | rfl | (simp [mayB]; done), by go_grown⟩
  · go_enter Try.func17, Try.ntmps17
    go_wp2
    all_goals go_ret
    all_goals exact ⟨by first | rfl | (simp [mayB]; done), by go_grown⟩
  · go_enter Try.func17, Try.ntmps17
    go_wp2
    all_goals go_ret
    all_goals exact ⟨by first | rfl | (simp [mayB]; done), by go_grown⟩
  · go_enter Try.func17, Try.ntmps17
    go_wp2
    all_goals go_ret
    all_goals exact ⟨by first | rfl | (simp [mayB]; done), by go_grown⟩
  · have HM := Lib.hid hm
    clear hm
    go_enter Try.func17, Try.ntmps17
    go_wp2
    all_goals go_ret
    all_goals exact ⟨ret_bool (HM.out v).symm, by go_grown⟩
theorem bcell {W w1 : World} (hb : Below W.heap.size W w1) : (∀ b o, b < W.heap.size → w1.cell? ⟨b, o, none⟩ = W.cell? ⟨b, o, none⟩) ∧ (∀ b o, b < W.heap.size → w1.frozen? ⟨b, o, none⟩ = W.frozen? ⟨b, o, none⟩) :=
  ⟨fun b o h => hb.cell (p := ⟨b, o, none⟩) h, fun b o h => hb.frozen (p := ⟨b, o, none⟩) h⟩
def holdsB (k v : Int) (t : Bool) (x : Int) : Bool := if mayB k v = false then false else if k = 1 then !t else if k = 2 then t else if k = 3 then t && (x == v) else true
theorem holds_no {k v x : Int} {t : Bool} (h : mayB k v = false) : holdsB k v t x = false := by simp [holdsB, h]
theorem holds_0 {v x : Int} {t : Bool} (h : mayB 0 v = true) : holdsB 0 v t x = true := by simp [holdsB, h]
theorem holds_1 {v x : Int} {t : Bool} (h : mayB 1 v = true) : holdsB 1 v t x = !t := by simp [holdsB, h]
theorem holds_2 {v x : Int} {t : Bool} (h : mayB 2 v = true) : holdsB 2 v t x = t := by simp [holdsB, h]
theorem holds_3 {v x : Int} {t : Bool} (h : mayB 3 v = true) : holdsB 3 v t x = (t && (x == v)) := by simp [holdsB, h]
def txts (k v : Int) : ByteArray × ByteArray := if mayB k v = false then (⟨#[]⟩, ⟨#[]⟩) else if k = 2 then (⟨#[42]⟩, ⟨#[]⟩) else if k = 1 then (⟨#[]⟩, ⟨#[42]⟩) else if k = 3 then (shw v, ⟨#[]⟩) else (⟨#[]⟩, ⟨#[]⟩)
theorem txts_no {k v : Int} (h : mayB k v = false) : txts k v = (⟨#[]⟩, ⟨#[]⟩) := by simp [txts, h]
theorem txts_0 {v : Int} (h : mayB 0 v = true) : txts 0 v = (⟨#[]⟩, ⟨#[]⟩) := by simp [txts, h]
theorem txts_1 {v : Int} (h : mayB 1 v = true) : txts 1 v = (⟨#[]⟩, ⟨#[42]⟩) := by simp [txts, h]
theorem txts_2 {v : Int} (h : mayB 2 v = true) : txts 2 v = (⟨#[42]⟩, ⟨#[]⟩) := by simp [txts, h]
theorem txts_3 {v : Int} (h : mayB 3 v = true) : txts 3 v = (shw v, ⟨#[]⟩) := by simp [txts, h]
theorem ret_ss {a b c d : ByteArray} (h : (a, b) = (c, d)) : Ending.returned (.tuple #[.string c, .string d]) = Ending.returned (.tuple #[.string a, .string b]) := by
  injection h with h1 h2; subst h1 h2; rfl
set_option maxHeartbeats 400000 in
theorem holds_any (k v : Int) (t : Bool) (x : Int) (w : World)  : Calls Try.prog 18 #[.agg #[.int .i64 k, .int .i64 v], .bool t, .int .i64 x] w fun e w' => e = .returned (.bool (holdsB k v t x)) ∧ Below w.heap.size w w' := by
  cases hm : mayB k v
  · have HS := Lib.hid (holds_no (x := x) (t := t) hm)
    have HM := Lib.hid hm
    clear hm
    go_enter Try.func18, Try.ntmps18
    go_wp2_with fail
    refine (may_any k v _).mono ?_; rintro e w1 ⟨rfl, hb⟩
    rw [HM.out]
    go_wp2
    go_ret
    exact ⟨by first | exact ret_bool HS.out.symm | (rw [HS.out]; simp; done) | (rw [HS.out]; cases t <;> simp_all), ((Below.refl _ _).alloc (Nat.le_refl _) _).trans (hb.mono (by simp))⟩
  rcases kinds k with rfl | rfl | rfl | rfl | ⟨h0, h1', h2', h3, hx⟩
  · have HS := Lib.hid (holds_0 (x := x) (t := t) hm)
    have HM := Lib.hid hm
    clear hm
    go_enter Try.func18, Try.ntmps18
    go_wp2_with fail
    refine (may_any _ v _).mono ?_; rintro e w1 ⟨rfl, hb⟩
    rw [HM.out]
    obtain ⟨hc, hf⟩ := bcell hb
    have hz : w.heap.size < w1.heap.size := by have := hb.size; simp only [World.size_alloc] at this; omega
    have HB : Hid (Below w.heap.size w w1) := ((Below.refl _ _).alloc (Nat.le_refl _) _).trans (hb.mono (by simp))
    clear hb
    go_wp2_with fail
    all_goals go_ret
    all_goals exact ⟨by first | exact ret_bool HS.out.symm | (rw [HS.out]; simp; done) | (rw [HS.out]; cases t <;> simp_all), HB.out⟩
  · have HS := Lib.hid (holds_1 (x := x) (t := t) hm)
    have HM := Lib.hid hm
    clear hm
    go_enter Try.func18, Try.ntmps18
    go_wp2_with fail
    refine (may_any _ v _).mono ?_; rintro e w1 ⟨rfl, hb⟩
    rw [HM.out]
    obtain ⟨hc, hf⟩ := bcell hb
    have hz : w.heap.size < w1.heap.size := by have := hb.size; simp only [World.size_alloc] at this; omega
    have HB : Hid (Below w.heap.size w w1) := ((Below.refl _ _).alloc (Nat.le_refl _) _).trans (hb.mono (by simp))
    clear hb
    go_wp2_with fail
    all_goals go_ret
    all_goals exact ⟨by first | exact ret_bool HS.out.symm | (rw [HS.out]; simp; done) | (rw [HS.out]; cases t <;> simp_all), HB.out⟩
  · have HS := Lib.hid (holds_2 (x := x) (t := t) hm)
    have HM := Lib.hid hm
    clear hm
    go_enter Try.func18, Try.ntmps18
    go_wp2_with fail
    refine (may_any _ v _).mono ?_; rintro e w1 ⟨rfl, hb⟩
    rw [HM.out]
    obtain ⟨hc, hf⟩ := bcell hb
    have hz : w.heap.size < w1.heap.size := by have := hb.size; simp only [World.size_alloc] at this; omega
    have HB : Hid (Below w.heap.size w w1) := ((Below.refl _ _).alloc (Nat.le_refl _) _).trans (hb.mono (by simp))
    clear hb
    go_wp2_with fail
    all_goals go_ret
    all_goals exact ⟨by first | exact ret_bool HS.out.symm | (rw [HS.out]; simp; done) | (rw [HS.out]; cases t <;> simp_all), HB.out⟩
  · have HS := Lib.hid (holds_3 (x := x) (t := t) hm)
    have HM := Lib.hid hm
    clear hm
    go_enter Try.func18, Try.ntmps18
    go_wp2_with fail
    refine (may_any _ v _).mono ?_; rintro e w1 ⟨rfl, hb⟩
    rw [HM.out]
    obtain ⟨hc, hf⟩ := bcell hb
    have hz : w.heap.size < w1.heap.size := by have := hb.size; simp only [World.size_alloc] at this; omega
    have HB : Hid (Below w.heap.size w w1) := ((Below.refl _ _).alloc (Nat.le_refl _) _).trans (hb.mono (by simp))
    clear hb
    go_wp2_with fail
    all_goals go_ret
    all_goals exact ⟨by first | exact ret_bool HS.out.symm | (rw [HS.out]; simp; done) | (rw [HS.out]; cases t <;> simp_all), HB.out⟩
  · exact absurd (hx v) (by rw [hm]; decide)
set_option maxHeartbeats 400000 in
theorem rholds_any (k v : Int) (t : Bool) (x : Int) (w : World)  : Calls Try.prog 19 #[.agg #[.int .i64 k, .int .i64 v], .bool t, .int .i64 x] w fun e w' => e = .returned (.bool (holdsB k v t x)) ∧ Below w.heap.size w w' := by
  cases hm : mayB k v
  · have HS := Lib.hid (holds_no (x := x) (t := t) hm)
    have HM := Lib.hid hm
    clear hm
    go_enter Try.func19, Try.ntmps19
    go_wp2_with fail
    refine (rmay_any k v _).mono ?_; rintro e w1 ⟨rfl, hb⟩
    rw [HM.out]
    go_wp2
    go_ret
    exact ⟨by first | exact ret_bool HS.out.symm | (rw [HS.out]; simp; done) | (rw [HS.out]; cases t <;> simp_all), ((Below.refl _ _).alloc (Nat.le_refl _) _).trans (hb.mono (by simp))⟩
  rcases kinds k with rfl | rfl | rfl | rfl | ⟨h0, h1', h2', h3, hx⟩
  · have HS := Lib.hid (holds_0 (x := x) (t := t) hm)
    have HM := Lib.hid hm
    clear hm
    go_enter Try.func19, Try.ntmps19
    go_wp2_with fail
    refine (rmay_any _ v _).mono ?_; rintro e w1 ⟨rfl, hb⟩
    rw [HM.out]
    obtain ⟨hc, hf⟩ := bcell hb
    have hz : w.heap.size < w1.heap.size := by have := hb.size; simp only [World.size_alloc] at this; omega
    have HB : Hid (Below w.heap.size w w1) := ((Below.refl _ _).alloc (Nat.le_refl _) _).trans (hb.mono (by simp))
    clear hb
    go_wp2_with fail
    all_goals go_ret
    all_goals exact ⟨by first | exact ret_bool HS.out.symm | (rw [HS.out]; simp; done) | (rw [HS.out]; cases t <;> simp_all), HB.out⟩
  · have HS := Lib.hid (holds_1 (x := x) (t := t) hm)
    have HM := Lib.hid hm
    clear hm
    go_enter Try.func19, Try.ntmps19
    go_wp2_with fail
    refine (rmay_any _ v _).mono ?_; rintro e w1 ⟨rfl, hb⟩
    rw [HM.out]
    obtain ⟨hc, hf⟩ := bcell hb
    have hz : w.heap.size < w1.heap.size := by have := hb.size; simp only [World.size_alloc] at this; omega
    have HB : Hid (Below w.heap.size w w1) := ((Below.refl _ _).alloc (Nat.le_refl _) _).trans (hb.mono (by simp))
    clear hb
    go_wp2_with fail
    all_goals go_ret
    all_goals exact ⟨by first | exact ret_bool HS.out.symm | (rw [HS.out]; simp; done) | (rw [HS.out]; cases t <;> simp_all), HB.out⟩
  · have HS := Lib.hid (holds_2 (x := x) (t := t) hm)
    have HM := Lib.hid hm
    clear hm
    go_enter Try.func19, Try.ntmps19
    go_wp2_with fail
    refine (rmay_any _ v _).mono ?_; rintro e w1 ⟨rfl, hb⟩
    rw [HM.out]
    obtain ⟨hc, hf⟩ := bcell hb
    have hz : w.heap.size < w1.heap.size := by have := hb.size; simp only [World.size_alloc] at this; omega
    have HB : Hid (Below w.heap.size w w1) := ((Below.refl _ _).alloc (Nat.le_refl _) _).trans (hb.mono (by simp))
    clear hb
    go_wp2_with fail
    all_goals go_ret
    all_goals exact ⟨by first | exact ret_bool HS.out.symm | (rw [HS.out]; simp; done) | (rw [HS.out]; cases t <;> simp_all), HB.out⟩
  · have HS := Lib.hid (holds_3 (x := x) (t := t) hm)
    have HM := Lib.hid hm
    clear hm
    go_enter Try.func19, Try.ntmps19
    go_wp2_with fail
    refine (rmay_any _ v _).mono ?_; rintro e w1 ⟨rfl, hb⟩
    rw [HM.out]
    obtain ⟨hc, hf⟩ := bcell hb
    have hz : w.heap.size < w1.heap.size := by have := hb.size; simp only [World.size_alloc] at this; omega
    have HB : Hid (Below w.heap.size w w1) := ((Below.refl _ _).alloc (Nat.le_refl _) _).trans (hb.mono (by simp))
    clear hb
    go_wp2_with fail
    all_goals go_ret
    all_goals exact ⟨by first | exact ret_bool HS.out.symm | (rw [HS.out]; simp; done) | (rw [HS.out]; cases t <;> simp_all), HB.out⟩
  · exact absurd (hx v) (by rw [hm]; decide)
set_option maxHeartbeats 400000 in
theorem texts_any (k v : Int)  (w : World) (h1 : -9223372036854775808 ≤ v) (h2 : v ≤ 9223372036854775807) : Calls Try.prog 12 #[.agg #[.int .i64 k, .int .i64 v]] w fun e w' => e = .returned (.tuple #[.string (txts k v).1, .string (txts k v).2]) ∧ Below w.heap.size w w' := by
  cases hm : mayB k v
  · have HS := Lib.hid (txts_no hm)
    have HM := Lib.hid hm
    clear hm
    go_enter Try.func12, Try.ntmps12
    go_wp2_with fail
    refine (may_any k v _).mono ?_; rintro e w1 ⟨rfl, hb⟩
    rw [HM.out]
    go_wp2
    go_ret2
    exact ⟨ret_ss HS.out, ((Below.refl _ _).alloc (Nat.le_refl _) _).trans (hb.mono (by simp))⟩
  rcases kinds k with rfl | rfl | rfl | rfl | ⟨h0, h1', h2', h3, hx⟩
  · have HS := Lib.hid (txts_0 hm)
    have HM := Lib.hid hm
    clear hm
    go_enter Try.func12, Try.ntmps12
    go_wp2_with fail
    refine (may_any _ v _).mono ?_; rintro e w1 ⟨rfl, hb⟩
    rw [HM.out]
    obtain ⟨hc, hf⟩ := bcell hb
    have hz : w.heap.size < w1.heap.size := by have := hb.size; simp only [World.size_alloc] at this; omega
    have HB : Hid (Below w.heap.size w w1) := ((Below.refl _ _).alloc (Nat.le_refl _) _).trans (hb.mono (by simp))
    clear hb
    go_wp2_with fail
    all_goals go_ret2
    all_goals exact ⟨ret_ss HS.out, HB.out⟩
  · have HS := Lib.hid (txts_1 hm)
    have HM := Lib.hid hm
    clear hm
    go_enter Try.func12, Try.ntmps12
    go_wp2_with fail
    refine (may_any _ v _).mono ?_; rintro e w1 ⟨rfl, hb⟩
    rw [HM.out]
    obtain ⟨hc, hf⟩ := bcell hb
    have hz : w.heap.size < w1.heap.size := by have := hb.size; simp only [World.size_alloc] at this; omega
    have HB : Hid (Below w.heap.size w w1) := ((Below.refl _ _).alloc (Nat.le_refl _) _).trans (hb.mono (by simp))
    clear hb
    go_wp2_with fail
    all_goals go_ret2
    all_goals exact ⟨ret_ss HS.out, HB.out⟩
  · have HS := Lib.hid (txts_2 hm)
    have HM := Lib.hid hm
    clear hm
    go_enter Try.func12, Try.ntmps12
    go_wp2_with fail
    refine (may_any _ v _).mono ?_; rintro e w1 ⟨rfl, hb⟩
    rw [HM.out]
    obtain ⟨hc, hf⟩ := bcell hb
    have hz : w.heap.size < w1.heap.size := by have := hb.size; simp only [World.size_alloc] at this; omega
    have HB : Hid (Below w.heap.size w w1) := ((Below.refl _ _).alloc (Nat.le_refl _) _).trans (hb.mono (by simp))
    clear hb
    go_wp2_with fail
    all_goals go_ret2
    all_goals exact ⟨ret_ss HS.out, HB.out⟩
  · have HS := Lib.hid (txts_3 hm)
    have HM := Lib.hid hm
    clear hm
    go_enter Try.func12, Try.ntmps12
    go_wp2_with fail
    refine (may_any _ v _).mono ?_; rintro e w1 ⟨rfl, hb⟩
    rw [HM.out]
    obtain ⟨hc, hf⟩ := bcell hb
    have hz : w.heap.size < w1.heap.size := by have := hb.size; simp only [World.size_alloc] at this; omega
    have HB : Hid (Below w.heap.size w w1) := ((Below.refl _ _).alloc (Nat.le_refl _) _).trans (hb.mono (by simp))
    clear hb
    go_wp2_with fail
    refine (show_any v _ h1 h2).mono ?_; rintro e w2 ⟨rfl, rfl⟩
    go_wp2
    all_goals go_ret2
    all_goals exact ⟨ret_ss HS.out, HB.out⟩
  · exact absurd (hx v) (by rw [hm]; decide)
set_option maxHeartbeats 400000 in
theorem rtexts_any (k v : Int)  (w : World) (h1 : -9223372036854775808 ≤ v) (h2 : v ≤ 9223372036854775807) : Calls Try.prog 13 #[.agg #[.int .i64 k, .int .i64 v]] w fun e w' => e = .returned (.tuple #[.string (txts k v).1, .string (txts k v).2]) ∧ Below w.heap.size w w' := by
  cases hm : mayB k v
  · have HS := Lib.hid (txts_no hm)
    have HM := Lib.hid hm
    clear hm
    go_enter Try.func13, Try.ntmps13
    go_wp2_with fail
    refine (rmay_any k v _).mono ?_; rintro e w1 ⟨rfl, hb⟩
    rw [HM.out]
    go_wp2
    go_ret2
    exact ⟨ret_ss HS.out, ((Below.refl _ _).alloc (Nat.le_refl _) _).trans (hb.mono (by simp))⟩
  rcases kinds k with rfl | rfl | rfl | rfl | ⟨h0, h1', h2', h3, hx⟩
  · have HS := Lib.hid (txts_0 hm)
    have HM := Lib.hid hm
    clear hm
    go_enter Try.func13, Try.ntmps13
    go_wp2_with fail
    refine (rmay_any _ v _).mono ?_; rintro e w1 ⟨rfl, hb⟩
    rw [HM.out]
    obtain ⟨hc, hf⟩ := bcell hb
    have hz : w.heap.size < w1.heap.size := by have := hb.size; simp only [World.size_alloc] at this; omega
    have HB : Hid (Below w.heap.size w w1) := ((Below.refl _ _).alloc (Nat.le_refl _) _).trans (hb.mono (by simp))
    clear hb
    go_wp2_with fail
    all_goals go_ret2
    all_goals exact ⟨ret_ss HS.out, HB.out⟩
  · have HS := Lib.hid (txts_1 hm)
    have HM := Lib.hid hm
    clear hm
    go_enter Try.func13, Try.ntmps13
    go_wp2_with fail
    refine (rmay_any _ v _).mono ?_; rintro e w1 ⟨rfl, hb⟩
    rw [HM.out]
    obtain ⟨hc, hf⟩ := bcell hb
    have hz : w.heap.size < w1.heap.size := by have := hb.size; simp only [World.size_alloc] at this; omega
    have HB : Hid (Below w.heap.size w w1) := ((Below.refl _ _).alloc (Nat.le_refl _) _).trans (hb.mono (by simp))
    clear hb
    go_wp2_with fail
    all_goals go_ret2
    all_goals exact ⟨ret_ss HS.out, HB.out⟩
  · have HS := Lib.hid (txts_2 hm)
    have HM := Lib.hid hm
    clear hm
    go_enter Try.func13, Try.ntmps13
    go_wp2_with fail
    refine (rmay_any _ v _).mono ?_; rintro e w1 ⟨rfl, hb⟩
    rw [HM.out]
    obtain ⟨hc, hf⟩ := bcell hb
    have hz : w.heap.size < w1.heap.size := by have := hb.size; simp only [World.size_alloc] at this; omega
    have HB : Hid (Below w.heap.size w w1) := ((Below.refl _ _).alloc (Nat.le_refl _) _).trans (hb.mono (by simp))
    clear hb
    go_wp2_with fail
    all_goals go_ret2
    all_goals exact ⟨ret_ss HS.out, HB.out⟩
  · have HS := Lib.hid (txts_3 hm)
    have HM := Lib.hid hm
    clear hm
    go_enter Try.func13, Try.ntmps13
    go_wp2_with fail
    refine (rmay_any _ v _).mono ?_; rintro e w1 ⟨rfl, hb⟩
    rw [HM.out]
    obtain ⟨hc, hf⟩ := bcell hb
    have hz : w.heap.size < w1.heap.size := by have := hb.size; simp only [World.size_alloc] at this; omega
    have HB : Hid (Below w.heap.size w w1) := ((Below.refl _ _).alloc (Nat.le_refl _) _).trans (hb.mono (by simp))
    clear hb
    go_wp2_with fail
    refine (tag_any v _ h1 h2).mono ?_; rintro e w2 ⟨rfl, rfl⟩
    go_wp2
    all_goals go_ret2
    all_goals exact ⟨ret_ss HS.out, HB.out⟩
  · exact absurd (hx v) (by rw [hm]; decide)
end Go.Proofs.Ytdjibpjdgfhcoaa
