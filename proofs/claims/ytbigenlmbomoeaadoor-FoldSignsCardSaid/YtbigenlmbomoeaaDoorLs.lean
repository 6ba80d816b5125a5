/- Texts: which is ahead. -/
import Derived.Test.YtbigenlmbomoeaaDoorFo
namespace Go.Proofs.YtbigenlmbomoeaaDoor
open Go.RowKit
set_option linter.unusedVariables false
set_option maxRecDepth 20000
theorem toL (a : ByteArray) : a.toList = a.data.toList := ByteArray.toList_eq a
def lessS (a b : ByteArray) : Bool := if lowS a = lowS b then Op.bytesLess a.toList b.toList else Op.bytesLess (lowS a).toList (lowS b).toList
theorem less_any (a b : ByteArray) (ha : a.size ≤ 1000000) (hb : b.size ≤ 1000000) (w : World) : Calls Tryd.prog 12 #[.string a, .string b] w fun e w' => e = .returned (.bool (lessS a b)) ∧ Below w.heap.size w w' := by
  have h1 := Lib.hid (fold_any a ha)
  have h2 := Lib.hid (fold_any b hb)
  have h3 := Lib.hid (show lessS a b = if lowS a = lowS b then Op.bytesLess a.toList b.toList else Op.bytesLess (lowS a).toList (lowS b).toList from rfl)
  obtain ⟨r, hr⟩ : ∃ r, lessS a b = r := ⟨_, rfl⟩
  rw [hr] at h3 ⊢
  clear hr
  go_enter Tryd.func12, Tryd.ntmps12
  go_wp2_with (go_at_call 10; refine (h1.out _).mono ?_)
  rintro e w1 ⟨rfl, hb1⟩
  have HB1 := Lib.hid hb1
  clear hb1
  obtain ⟨x, hx⟩ : ∃ x, lowS a = x := ⟨_, rfl⟩
  simp only [hx] at h3 ⊢
  go_wp2_with (go_at_call 10; refine (h2.out _).mono ?_)
  rintro e w2 ⟨rfl, hb2⟩
  have HB2 := Lib.hid hb2
  clear hb2
  obtain ⟨y, hy⟩ : ∃ y, lowS b = y := ⟨_, rfl⟩
  simp only [hy] at h3 ⊢
  have HB := Lib.hid (show Below w.heap.size w w2 from HB1.out.trans (HB2.out.mono HB1.out.size))
  clear hx hy HB1 HB2
  by_cases hxy : x = y
  · subst hxy
    have e : ((x.toList == x.toList) = true) := by simp
    have h4 := Lib.hid (show r = Op.bytesLess a.toList b.toList by rw [h3.out, if_pos rfl])
    clear h3
    go_wp2
    go_ret
    exact ⟨by rw [h4.out]; rfl, HB.out⟩
  · have e : ((x.toList == y.toList) = false) := by
      simp only [beq_eq_false_iff_ne, ne_eq]
      intro h
      exact hxy (bs_ext (by rwa [toL, toL] at h))
    have h4 := Lib.hid (show r = Op.bytesLess x.toList y.toList by rw [h3.out, if_neg hxy])
    clear h3
    go_wp2
    go_ret
    exact ⟨by rw [h4.out]; rfl, HB.out⟩
end Go.Proofs.YtbigenlmbomoeaaDoor
