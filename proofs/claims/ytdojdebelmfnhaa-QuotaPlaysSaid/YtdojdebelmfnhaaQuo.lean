/- The parts of quota that read or count one more. -/
import Derived.Test.YtdojdebelmfnhaaProg
import Derived.Test.YtdojdebelmfnhaaWords
import Derived.WalkKit
import Derived.WalkSpells
import Derived.Deep.QuietTactic
import Derived.BigQuiet
import Derived.RegionTactic
import Derived.Lib.Hide
namespace Go.Proofs.Ytdojdebelmfnhaa
open Go.RowKit

def B6 (w : World) (g : Nat) (t : TypeId) (a b c d e f : Int) : Prop := Blk w g t #[.int .i64 a, .int .i64 b, .int .i64 c, .int .i64 d, .int .i64 e, .int .i64 f]
section
variable {w : World} {g : Nat} {t : TypeId} {a b c d e f : Int}
theorem B6.c0 (h : B6 w g t a b c d e f) : w.cell? ⟨g, 0, none⟩ = some (.int .i64 a) := h.cell 0
theorem B6.c1 (h : B6 w g t a b c d e f) : w.cell? ⟨g, 1, none⟩ = some (.int .i64 b) := h.cell 1
theorem B6.c2 (h : B6 w g t a b c d e f) : w.cell? ⟨g, 2, none⟩ = some (.int .i64 c) := h.cell 2
theorem B6.c3 (h : B6 w g t a b c d e f) : w.cell? ⟨g, 3, none⟩ = some (.int .i64 d) := h.cell 3
theorem B6.c4 (h : B6 w g t a b c d e f) : w.cell? ⟨g, 4, none⟩ = some (.int .i64 e) := h.cell 4
theorem B6.c5 (h : B6 w g t a b c d e f) : w.cell? ⟨g, 5, none⟩ = some (.int .i64 f) := h.cell 5
theorem B6.two (h : B6 w g t a b c d e f) (e' f' : Int) {x y : Int} (hx : x = e') (hy : y = f') : B6 ((w.setCell ⟨g, 4, none⟩ (.int .i64 x)).setCell ⟨g, 5, none⟩ (.int .i64 y)).drew g t a b c d e' f' := by
  subst hx; subst hy
  exact ((Blk.set_ h 4 (.int .i64 x)).set_ 5 (.int .i64 y)).drew
theorem B6.one4 (h : B6 w g t a b c d e f) (e' : Int) {x : Int} (hx : x = e') : B6 (w.setCell ⟨g, 4, none⟩ (.int .i64 x)) g t a b c d e' f := by
  subst hx
  exact (Blk.set_ h 4 (.int .i64 x))
theorem B6.one5 (h : B6 w g t a b c d e f) (f' : Int) {y : Int} (hy : y = f') : B6 (w.setCell ⟨g, 5, none⟩ (.int .i64 y)) g t a b c d e f' := by
  subst hy
  exact (Blk.set_ h 5 (.int .i64 y))
theorem B6.drew (h : B6 w g t a b c d e f) : B6 w.drew g t a b c d e f := Blk.drew h
theorem B6.drewN (h : B6 w g t a b c d e f) (n : Nat) : B6 (w.drewN n) g t a b c d e f := Blk.drewN h n
theorem only_drew {a w : World} {row : Option Nat} (h : a.grownBy w row) : a.grownBy w.drew row := ⟨h.os, h.tape, h.output, h.size, h.block⟩
end

theorem cols_any (g : Nat) (a b c d e f : Int) (w : World) (h : B6 w g 45 a b c d e f) :
    Calls Try.prog 12 #[.pointer (some ⟨g, 0, none⟩)] w fun x w' => x = .returned (.int .i64 e) ∧ w = w' := by
  have h4 := h.c4
  go_enter Try.func12, Try.ntmps12
  go_wp2
  go_ret
  exact ⟨rfl, rfl⟩
theorem bytes_any (g : Nat) (a b c d e f : Int) (w : World) (h : B6 w g 45 a b c d e f) :
    Calls Try.prog 13 #[.pointer (some ⟨g, 0, none⟩)] w fun x w' => x = .returned (.int .i64 f) ∧ w = w' := by
  have h4 := h.c5
  go_enter Try.func13, Try.ntmps13
  go_wp2
  go_ret
  exact ⟨rfl, rfl⟩
/-- The bounds of a budget that was made: all within what may be. -/
structure Fits (a b c d e f : Int) : Prop where
  a1 : 1 ≤ a
  a8 : a ≤ 8
  c1 : 1 ≤ c
  cm : c ≤ 1048576
  e0 : 0 ≤ e
  e8 : e ≤ a
  f0 : 0 ≤ f
  fm : f ≤ c

set_option maxHeartbeats 400000 in
theorem room_any (g : Nat) (a b c d e f : Int) (w : World) (h : B6 w g 45 a b c d e f) (hf : Fits a b c d e f) :
    Calls Try.prog 14 #[.pointer (some ⟨g, 0, none⟩)] w fun x w' => x = .returned (.int .i64 (c - f)) ∧ ∃ n, w' = w.drewN n := by
  have h2 := h.c2
  have h5 := h.c5
  obtain ⟨f1, f2, f3, f4, f5, f6, f7, f8⟩ := hf
  clear h
  go_enter Try.func14, Try.ntmps14
  go_wp2
  go_quiet (fail)
  go_wp2
  go_ret
  exact ⟨rfl, _, rfl⟩

set_option maxHeartbeats 400000 in
theorem open_yes (g : Nat) (a b c d e f : Int) (w : World) (h : B6 w g 45 a b c d e f) (hf : Fits a b c d e f) (hlt : e < a) :
    Calls Try.prog 15 #[.pointer (some ⟨g, 0, none⟩)] w fun x w' => x = .returned (.bool true) ∧ B6 w' g 45 a b c d (e + 1) f ∧ w.grownBy w' (some g) := by
  have h0 := h.c0
  have h4 := h.c4
  have hz := h.frozen 4
  have h5 : ∀ n, B6 (w.drewN n) g 45 a b c d e f := fun n => h.drewN n
  have H5 := Lib.hid h5
  obtain ⟨f1, f2, f3, f4, f5, f6, f7, f8⟩ := hf
  clear h h5
  go_enter Try.func15, Try.ntmps15
  go_wp2
  go_quiet (fail)
  go_wp2
  go_ret
  exact ⟨rfl, (H5.out _).set_ 4 _, only_setCell (only_drewN (World.grownBy.refl _ _) _) (.inl rfl) _⟩
set_option maxHeartbeats 400000 in
theorem open_no (g : Nat) (a b c d e f : Int) (w : World) (h : B6 w g 45 a b c d e f) (hf : Fits a b c d e f) (hlt : ¬ e < a) :
    Calls Try.prog 15 #[.pointer (some ⟨g, 0, none⟩)] w fun x w' => x = .returned (.bool false) ∧ B6 w' g 45 a b c d e f ∧ w.grownBy w' (some g) := by
  have h0 := h.c0
  have h4 := h.c4
  have h5 : ∀ n, B6 (w.drewN n) g 45 a b c d e f := fun n => h.drewN n
  have H5 := Lib.hid h5
  obtain ⟨f1, f2, f3, f4, f5, f6, f7, f8⟩ := hf
  clear h h5
  go_enter Try.func15, Try.ntmps15
  go_wp2
  go_quiet (fail)
  go_wp2
  go_ret
  exact ⟨rfl, H5.out _, only_drewN (World.grownBy.refl _ _) _⟩

set_option maxHeartbeats 400000 in
theorem ropen_yes (g : Nat) (a b c d e f : Int) (w : World) (h : B6 w g 35 a b c d e f) (hf : Fits a b c d e f) (hlt : e < a) :
    Calls Try.prog 16 #[.pointer (some ⟨g, 0, none⟩)] w fun x w' => x = .returned (.bool true) ∧ B6 w' g 35 a b c d (e + 1) f ∧ w.grownBy w' (some g) := by
  have h0 := h.c0
  have h4 := h.c4
  have hz := h.frozen 4
  have h5 : ∀ n, B6 (w.drewN n) g 35 a b c d e f := fun n => h.drewN n
  have H5 := Lib.hid h5
  obtain ⟨f1, f2, f3, f4, f5, f6, f7, f8⟩ := hf
  clear h h5
  go_enter Try.func16, Try.ntmps16
  go_wp2
  go_quiet (fail)
  go_wp2
  go_ret
  exact ⟨rfl, (H5.out _).set_ 4 _, only_setCell (only_drewN (World.grownBy.refl _ _) _) (.inl rfl) _⟩
set_option maxHeartbeats 400000 in
theorem ropen_no (g : Nat) (a b c d e f : Int) (w : World) (h : B6 w g 35 a b c d e f) (hf : Fits a b c d e f) (hlt : ¬ e < a) :
    Calls Try.prog 16 #[.pointer (some ⟨g, 0, none⟩)] w fun x w' => x = .returned (.bool false) ∧ B6 w' g 35 a b c d e f ∧ w.grownBy w' (some g) := by
  have h0 := h.c0
  have h4 := h.c4
  have h5 : ∀ n, B6 (w.drewN n) g 35 a b c d e f := fun n => h.drewN n
  have H5 := Lib.hid h5
  obtain ⟨f1, f2, f3, f4, f5, f6, f7, f8⟩ := hf
  clear h h5
  go_enter Try.func16, Try.ntmps16
  go_wp2
  go_quiet (fail)
  go_wp2
  go_ret
  exact ⟨rfl, H5.out _, only_drewN (World.grownBy.refl _ _) _⟩

set_option maxHeartbeats 400000 in
theorem rroom_any (g : Nat) (a b c d e f : Int) (w : World) (h : B6 w g 35 a b c d e f) (hf : Fits a b c d e f) :
    Calls Try.prog 23 #[.pointer (some ⟨g, 0, none⟩)] w fun x w' => x = .returned (.int .i64 (c - f)) ∧ ∃ n, w' = w.drewN n := by
  have h2 := h.c2
  have h5 := h.c5
  obtain ⟨f1, f2, f3, f4, f5, f6, f7, f8⟩ := hf
  clear h
  go_enter Try.func23, Try.ntmps23
  go_wp2
  go_quiet (fail)
  go_wp2
  go_ret
  exact ⟨rfl, _, rfl⟩

def qClose (f n : Int) : Int := f - min (max n 0) f
def qMove (f n : Int) : Int := max (f + n) 0
end Go.Proofs.Ytdojdebelmfnhaa
