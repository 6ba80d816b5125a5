/- first: what the chapter's example fixes, as it runs. -/
import Derived.Test.YtglifomkhcikdaaRg
namespace Go.Proofs.Ytglifomkhcikdaa
open Go.RowKit
set_option linter.unusedVariables false
set_option maxRecDepth 20000
theorem Rng.below {T e : TypeId} {w w' : World} {R g : Nat} {most first : Int} {items : List Value} (h : Rng T e w R g most first items) (hb : Below w.heap.size w w') : Rng T e w' R g most first items := by
  have h1 := h.lt
  have h2 : g < w.heap.size := by obtain ⟨_, _, _, _, _, hg⟩ := h; exact hg
  exact h.keep (hb.block R h1) (hb.block g h2)
set_option maxHeartbeats 1000000 in
theorem first_any (w : World) : Calls Try.prog 7 #[] w fun e w' => e = .returned (.bool true) ∧ Below w.heap.size w w' := by
  go_enter Try.func7, Try.ntmps7
  go_wp2_with (first
    | (go_at_call 8
       refine (new_any 2 w).mono ?_
       rintro _ w1 ⟨rfl, h1, h2⟩
       have HR1 := Lib.hid (show Rng 46 2 w1 w.heap.size w.heap.size 2 0 [] from h1)
       have H1 := Lib.hid h2
       clear h1 h2)
    | (go_at_call 9
       refine (push_room HR1.out (by simp) (by simp) 1).mono ?_
       rintro _ w2 ⟨rfl, g2, h1, h2, h3⟩
       have HR2 := Lib.hid (show Rng 46 2 w2 w.heap.size g2 2 0 [.int .i64 1] from h1)
       have H2 := Lib.hid (H1.out.trans (h3.below (Nat.le_refl _) (Nat.le_refl _) H1.out.size))
       have hg2 : w.heap.size ≤ g2 := by have := H1.out.size; omega
       clear h1 h2 h3 HR1)
    | (go_at_call 9
       refine (push_room HR2.out (by simp) (by simp) 2).mono ?_
       rintro _ w3 ⟨rfl, g3, h1, h2, h3⟩
       have HR3 := Lib.hid (show Rng 46 2 w3 w.heap.size g3 2 ((0 : Nat) : Int) [.int .i64 1, .int .i64 2] from h1)
       have H3 := Lib.hid (H2.out.trans (h3.below (Nat.le_refl _) hg2 H2.out.size))
       have hg3 : w.heap.size ≤ g3 := by have := H2.out.size; omega
       clear h1 h2 h3 HR2)
    | (go_at_call 9
       refine (push_full (x := 3) (y := 1) (n := 2) HR3.out rfl (by simp) (by omega) (by omega) rfl).mono ?_
       rintro _ w4 ⟨rfl, h1, h3⟩
       have HR4 := Lib.hid (show Rng 46 2 w4 w.heap.size g3 2 ((1 : Nat) : Int) [.int .i64 3, .int .i64 2] from h1)
       have H4 := Lib.hid (H3.out.trans (h3.below (Nat.le_refl _) hg3 H3.out.size))
       clear h1 h3 HR3)
    | (go_at_call 11
       refine (at_in (y := 2) (i := 0) (n := 2) HR4.out rfl (by omega) (by omega) (by omega) rfl).mono ?_
       rintro _ w5 ⟨rfl, h1⟩
       have HR5 := Lib.hid (HR4.out.below h1)
       have H5 := Lib.hid (H4.out.trans (h1.mono H4.out.size))
       clear h1 HR4)
    | (go_at_call 10
       refine (len_any HR5.out).mono ?_
       rintro _ w6 ⟨rfl, h1⟩
       have H6 := Lib.hid (H5.out.trans (h1.mono H5.out.size))
       clear h1 HR5)
    | fail)
  go_ret
  exact ⟨rfl, H6.out⟩
end Go.Proofs.Ytglifomkhcikdaa
