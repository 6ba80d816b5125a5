/- The clock's order of alarms: it is one; who comes first. -/
import Derived.Test.YtchjgojagmhpeaaSc
import Derived.Shelf.SlSortCmp.Kit1
import Derived.Sort.Statements
namespace Go.Proofs.Ytchjgojagmhpeaa
open Go.RowKit Go.Maps
open Go.Proofs Go.Sort Go.Lib
set_option linter.unusedVariables false
set_option linter.unusedSimpArgs false
set_option maxRecDepth 20000
abbrev W64 := { x : Int // wf x }
instance : Inhabited W64 := ⟨⟨0, by unfold wf; decide⟩⟩
def encW (x : W64) : Value := .int .i64 x.1
def cfW (D : MD) (x y : W64) : Int := cfI D x.1 y.1
/-- x comes ahead of y. -/
def ahd (D : MD) (x y : Int) : Prop := tm D x < tm D y ∨ (tm D x = tm D y ∧ x < y)
theorem cfI_lt (D : MD) (x y : Int) : cfI D x y < 0 ↔ ahd D x y := by
  unfold cfI ahd c3
  by_cases h1 : tm D x < tm D y
  · simp [h1]
  · by_cases h2 : tm D y < tm D x
    · simp [h1, h2]
      intro h; omega
    · have h3 : tm D x = tm D y := by omega
      simp only [h3, Int.lt_irrefl, if_false, ne_eq, not_true, true_and, false_or]
      by_cases h4 : x < y
      · simp [h4]
      · by_cases h5 : y < x
        · simp [h4, h5]
        · simp [h4, h5]
theorem ltW (D : MD) (x y : W64) : ltOf (cfW D) x y = true ↔ ahd D x.1 y.1 := by
  unfold ltOf cfW
  rw [decide_eq_true_eq, cfI_lt]
theorem ltW_not (D : MD) (x y : W64) : ltOf (cfW D) x y = false ↔ ¬ ahd D x.1 y.1 := by
  rw [← ltW]; simp
theorem swoW (D : MD) : SWO (ltOf (cfW D)) where
  irrefl := fun x => by rw [ltW_not]; unfold ahd; omega
  trans := fun x y z h1 h2 => by
    rw [ltW] at *
    unfold ahd at *
    omega
  ntrans := fun x y z h1 h2 => by
    rw [ltW_not] at *
    unfold ahd at *
    omega
theorem totW (D : MD) (x y : W64) (h1 : ltOf (cfW D) x y = false) (h2 : ltOf (cfW D) y x = false) : x = y := by
  rw [ltW_not] at h1 h2
  unfold ahd at h1 h2
  exact Subtype.ext (by omega)
theorem Clk.grown {w w' : World} {R b n g : Nat} {now : Int} {D : MD} (h : Clk w R b now n D) (hg : w.grownBy w' (some g)) (h1 : R ≠ g) (h2 : b ≠ g) : Clk w' R b now n D :=
  ⟨h.box.grown hg (by simpa using h1), h.own.kept hg (by simpa using h2), h.ne, h.is⟩
theorem sort_grown {α : Type} [Inhabited α] (enc : α → Value) (w : World) (g m : Nat) (dk : Array α) (os : Array Obj) : w.grownBy (sortWorld enc w g 0 m dk os) (some g) := by
  unfold sortWorld
  refine ⟨rfl, rfl, rfl, ?_, fun j hj hne => ?_⟩
  · simp
  · have h1 : (putRow enc (Sort.ahead w m) g 0 dk).heap[j]? = w.heap[j]? := by
      unfold putRow mapBlock
      have hne' : ¬ g = j := fun e => hne (by rw [e])
      simp only [Array.getElem?_modify, if_neg hne']
      rfl
    rw [heap_grow_old _ os (by simpa using hj)]
    exact h1
theorem cmp_lays {w : World} {R b n B g : Nat} {now : Int} {D : MD} (h : Clk w R b now n D) (hB : w.cell? ⟨B, 0, none⟩ = some (.pointer (some ⟨R, 0, none⟩))) (h1 : R ≠ g) (h2 : b ≠ g) (h3 : B ≠ g) (size : Nat) : CmpLays1 Try.prog 24 #[.pointer (some ⟨B, 0, none⟩)] encW (cfW D) g 0 size w := by
  intro m os dk _ x y
  have hg := sort_grown encW w g m dk os
  have hB' : (sortWorld encW w g 0 m dk os).cell? ⟨B, 0, none⟩ = some (.pointer (some ⟨R, 0, none⟩)) := by
    have : (sortWorld encW w g 0 m dk os).heap[B]? = w.heap[B]? := hg.block B (cell_lt hB) (by simpa using h3)
    simp only [World.cell?] at hB ⊢
    rw [this]; exact hB
  refine (closure_any (h.grown hg h1 h2) hB' x.1 y.1 x.2 y.2).mono ?_
  rintro e w' ⟨rfl, q, o, rfl⟩
  exact ⟨rfl, q, #[o], alloc_eq_grow _ _⟩
end Go.Proofs.Ytchjgojagmhpeaa
