/- The document's own examples. -/
import Derived.Test.YtbigenlmbomoeaaDoorCl
import Derived.Test.YtbigenlmbomoeaaDoorPu
namespace Go.Proofs.YtbigenlmbomoeaaDoor
open Go.RowKit
set_option linter.unusedVariables false
set_option maxRecDepth 20000
theorem tabs_on {B : Nat} {w w' : World} (h : Tabs w) (hb : Below B w w') (h2 : 2 ≤ B) : Tabs w' := by
  refine ⟨fun c hc => ?_, fun i hi => ⟨?_, ?_⟩⟩
  · have := h.1 c hc
    simp only [World.cell?] at this ⊢
    rw [hb.block 0 (by omega)]; exact this
  · have := (h.2 i hi).1
    simp only [World.cell?] at this ⊢
    rw [hb.block 1 (by omega)]; exact this
  · have := (h.2 i hi).2
    simp only [World.cell?] at this ⊢
    rw [hb.block 1 (by omega)]; exact this
theorem ex_clean : cleanS ⟨#[32, 32, 65, 110, 110, 32, 32, 32, 76, 101, 101, 32]⟩ = (⟨#[65, 110, 110, 32, 76, 101, 101]⟩, 0) := by decide +kernel
theorem ex_less : lessS ⟨#[97, 110, 110]⟩ ⟨#[66, 111, 98]⟩ = true := by decide +kernel
theorem ex_signs : signs ⟨#[195, 169]⟩ = 1 := by decide +kernel
set_option maxHeartbeats 2000000 in
theorem first_any (w : World) (hT : Tabs w) (h2 : 2 ≤ w.heap.size) : Calls Tryd.prog 7 #[] w fun e w' => e = .returned (.bool true) ∧ Below w.heap.size w w' := by
  have C := clean_any ⟨#[32, 32, 65, 110, 110, 32, 32, 32, 76, 101, 101, 32]⟩ (by decide) w hT
  rw [ex_clean] at C
  have HC := Lib.hid C
  have L := fun w => less_any ⟨#[97, 110, 110]⟩ ⟨#[66, 111, 98]⟩ (by decide) (by decide) w
  rw [ex_less] at L
  have HL := Lib.hid L
  have S := fun (w : World) (hT : Tabs w) => signs_any ⟨#[195, 169]⟩ (by decide) w hT
  rw [ex_signs] at S
  have HS := Lib.hid S
  have HT := Lib.hid hT
  clear C L S hT
  go_enter Tryd.func7, Tryd.ntmps7
  go_wp2_with (go_at_call 8; refine HC.out.mono ?_)
  rintro e w1 rfl h1
  have HB1 := Lib.hid h1
  clear h1
  go_wp2_with (go_at_call 12; refine (HL.out _).mono ?_)
  rintro e w2 ⟨rfl, h3⟩
  have HB2 := Lib.hid (HB1.out.trans (h3.mono HB1.out.size))
  clear h3
  go_wp2_with (go_at_call 14; refine (HS.out _ (tabs_on HT.out HB2.out h2)).mono ?_)
  rintro e w3 ⟨rfl, h3⟩
  have HB3 := Lib.hid (HB2.out.trans (h3.mono HB2.out.size))
  clear h3
  go_wp2
  go_ret
  exact ⟨rfl, HB3.out⟩
end Go.Proofs.YtbigenlmbomoeaaDoor
