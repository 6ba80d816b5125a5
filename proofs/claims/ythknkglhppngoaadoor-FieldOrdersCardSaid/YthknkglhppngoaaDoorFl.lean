/- Lines of a contact: which is ahead. -/
import Derived.Test.YthknkglhppngoaaDoorFw
import Derived.Test.YthknkglhppngoaaDoorYm
namespace Go.Proofs.YthknkglhppngoaaDoor
open Go.RowKit
set_option linter.unusedVariables false
set_option maxRecDepth 20000
abbrev fieldV (k l : Int) (v : ByteArray) : Value := .agg #[.int .i64 k, .int .i64 l, .string v]
def lessF (k l : Int) (v : ByteArray) (k2 l2 : Int) (v2 : ByteArray) : Bool := if k = k2 then (if l = l2 then Op.bytesLess v.toList v2.toList else decide (l < l2)) else decide (k < k2)
theorem two_boxes (w : World) (t : TypeId) (a b : Array Value) : Below w.heap.size w ((w.alloc (.cells a t)).alloc (.cells b t)) := ((Below.refl _ _).alloc (Nat.le_refl _) _).alloc (by simp) _
set_option maxHeartbeats 2000000 in
theorem less_any (k l : Int) (v : ByteArray) (k2 l2 : Int) (v2 : ByteArray) (w : World) : Calls Tryd.prog 10 #[fieldV k l v, fieldV k2 l2 v2] w fun e w' => e = .returned (.bool (lessF k l v k2 l2 v2)) ∧ Below w.heap.size w w' := by
  obtain ⟨r, hr⟩ : ∃ r, lessF k l v k2 l2 v2 = r := ⟨_, rfl⟩
  rw [hr]
  have HR := Lib.hid (show r = if k = k2 then (if l = l2 then Op.bytesLess v.toList v2.toList else decide (l < l2)) else decide (k < k2) by rw [← hr]; rfl)
  clear hr
  by_cases h : k = k2
  · have d : (k != k2) = false := by simpa using h
    by_cases g : l = l2
    · have d2 : (l != l2) = false := by simpa using g
      have H0 := Lib.hid (show r = Op.bytesLess v.toList v2.toList by rw [HR.out, if_pos h, if_pos g])
      go_enter Tryd.func10, Tryd.ntmps10
      go_wp2
      go_ret
      exact ⟨by rw [H0.out]; rfl, two_boxes _ _ _ _⟩
    · have d2 : (l != l2) = true := by simpa using g
      have H0 := Lib.hid (show r = decide (l < l2) by rw [HR.out, if_pos h, if_neg g])
      go_enter Tryd.func10, Tryd.ntmps10
      go_wp2
      go_ret
      exact ⟨by rw [H0.out]; rfl, two_boxes _ _ _ _⟩
  · have d : (k != k2) = true := by simpa using h
    have H0 := Lib.hid (show r = decide (k < k2) by rw [HR.out, if_neg h])
    go_enter Tryd.func10, Tryd.ntmps10
    go_wp2
    go_ret
    exact ⟨by rw [H0.out]; rfl, two_boxes _ _ _ _⟩
end Go.Proofs.YthknkglhppngoaaDoor
