/- Texts made clean: clean twice. -/
import Derived.Test.YthknkglhppngoaaDoorPv
import Derived.Test.YthknkglhppngoaaDoorCl
namespace Go.Proofs.YthknkglhppngoaaDoor
open Go.RowKit
set_option linter.unusedVariables false
theorem cleanOf_ok {v c : Bool} {t : ByteArray} (h : (cleanOf v c t).2 = 0) : v = true ∧ c = false ∧ t ≠ ⟨#[]⟩ ∧ (t.size : Int) ≤ 64 ∧ cleanOf v c t = (t, 0) := by
  unfold cleanOf at h ⊢
  split at h
  · simp at h
  · split at h
    · simp at h
    · split at h
      · simp at h
      · rename_i h1 h2 h3
        rw [if_neg h1, if_neg h2, if_neg h3]
        cases v <;> cases c <;> simp_all
theorem clean_mk (s t : ByteArray) (hv : Lib.validD s.data.toList = true) (hc : s.data.toList.any ctl = false) (hs : sq s.data.toList = t.data.toList) (h0 : t ≠ ⟨#[]⟩) (h1 : (t.size : Int) ≤ 64) : cleanS s = (t, 0) := by
  unfold cleanS
  rw [hv, hc, squeezeS_sq, hs]
  unfold cleanOf
  rw [if_neg (by decide), if_neg h0, if_neg (by show ¬ 64 < (t.size : Int); omega)]
theorem clean_ok (a : ByteArray) (h : (cleanS a).2 = 0) : Lib.validD a.data.toList = true ∧ a.data.toList.any ctl = false ∧ ∃ t : ByteArray, t.data.toList = sq a.data.toList ∧ t ≠ ⟨#[]⟩ ∧ (t.size : Int) ≤ 64 ∧ cleanS a = (t, 0) := by
  have := cleanOf_ok h
  exact ⟨this.1, this.2.1, squeezeS a, by rw [squeezeS_sq], this.2.2.1, this.2.2.2.1, this.2.2.2.2⟩
theorem clean_twice (a t : ByteArray) (hv : Lib.validD a.data.toList = true) (hc : a.data.toList.any ctl = false) (hs : t.data.toList = sq a.data.toList) (h0 : t ≠ ⟨#[]⟩) (h1 : (t.size : Int) ≤ 64) : cleanS t = (t, 0) :=
  clean_mk t t (by rw [hs]; exact (sq_whole _ hv).valid) (by rw [hs]; exact sq_ctl _ hc) (by rw [hs, sq_sq]) h0 h1
theorem clean_self (a : ByteArray) (h : (cleanS a).2 = 0) : cleanS (cleanS a).1 = ((cleanS a).1, 0) := by
  obtain ⟨hv, hc, t, hs, h0, h1, e⟩ := clean_ok a h
  rw [e]
  exact clean_twice a t hv hc hs h0 h1
end Go.Proofs.YthknkglhppngoaaDoor
