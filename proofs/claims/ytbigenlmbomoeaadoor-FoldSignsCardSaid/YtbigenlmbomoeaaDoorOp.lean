/- Clean once, clean twice: what the law asks. -/
import Derived.Test.YtbigenlmbomoeaaDoorPv
import Derived.Test.YtbigenlmbomoeaaDoorOr
namespace Go.Proofs.YtbigenlmbomoeaaDoor
open Go.RowKit
set_option linter.unusedVariables false
theorem cleanOf_ok {v c : Bool} {t : ByteArray} (h : (cleanOf v c t).2 = 0) : v = true ∧ c = false ∧ t ≠ ⟨#[]⟩ ∧ (t.size : Int) ≤ 64 ∧ cleanOf v c t = (t, 0) := by
  unfold cleanOf at h ⊢
  split at h
  · simp at h
  · split at h
    · simp at h
    · split at h
      · simp at h
      · rename_i h1 h2 h3
        rw [if_neg h1, if_neg h2, if_neg h3]
        cases v <;> cases c <;> simp_all
theorem cleanOf_bad {v c : Bool} {t : ByteArray} (h : (cleanOf v c t).2 ≠ 0) : cleanOf v c t = (⟨#[]⟩, 1) ∨ cleanOf v c t = (⟨#[]⟩, 14) ∨ cleanOf v c t = (⟨#[]⟩, 2) := by
  unfold cleanOf at h ⊢
  split at h
  · rename_i h1; rw [if_pos h1]; exact .inl rfl
  · rename_i h1; rw [if_neg h1]
    split at h
    · rename_i h2; rw [if_pos h2]; exact .inr (.inl rfl)
    · rename_i h2; rw [if_neg h2]
      split at h
      · rename_i h3; rw [if_pos h3]; exact .inr (.inr rfl)
      · exact absurd rfl h
theorem clean_mk (s t : ByteArray) (hv : Lib.validD s.data.toList = true) (hc : s.data.toList.any ctl = false) (hs : sq s.data.toList = t.data.toList) (h0 : t ≠ ⟨#[]⟩) (h1 : (t.size : Int) ≤ 64) : cleanS s = (t, 0) := by
  unfold cleanS
  rw [hv, hc, squeezeS_sq, hs]
  unfold cleanOf
  rw [if_neg (by decide), if_neg h0, if_neg (by show ¬ 64 < (t.size : Int); omega)]
theorem clean_ok (a : ByteArray) (h : (cleanS a).2 = 0) : Lib.validD a.data.toList = true ∧ a.data.toList.any ctl = false ∧ ∃ t : ByteArray, t.data.toList = sq a.data.toList ∧ t ≠ ⟨#[]⟩ ∧ (t.size : Int) ≤ 64 ∧ cleanS a = (t, 0) := by
  have := cleanOf_ok h
  exact ⟨this.1, this.2.1, squeezeS a, by rw [squeezeS_sq], this.2.2.1, this.2.2.2.1, this.2.2.2.2⟩
theorem clean_twice (a t : ByteArray) (hv : Lib.validD a.data.toList = true) (hc : a.data.toList.any ctl = false) (hs : t.data.toList = sq a.data.toList) (h0 : t ≠ ⟨#[]⟩) (h1 : (t.size : Int) ≤ 64) : cleanS t = (t, 0) :=
  clean_mk t t (by rw [hs]; exact (sq_whole _ hv).valid) (by rw [hs]; exact sq_ctl _ hc) (by rw [hs, sq_sq]) h0 h1
theorem clean_blanks (a t : ByteArray) (hv : Lib.validD a.data.toList = true) (hc : a.data.toList.any ctl = false) (hs : t.data.toList = sq a.data.toList) (h0 : t ≠ ⟨#[]⟩) (h1 : (t.size : Int) ≤ 64) : cleanS ((⟨#[32, 32]⟩ : ByteArray) ++ a ++ ⟨#[32]⟩) = (t, 0) := by
  have e : ((⟨#[32, 32]⟩ : ByteArray) ++ a ++ ⟨#[32]⟩).data.toList = 32 :: 32 :: (a.data.toList ++ [32]) := by simp [ByteArray.data_append]
  refine clean_mk _ t ?_ ?_ (by rw [e, sq_blanks, hs]) h0 h1
  · rw [e, Lib.validD_cons _ _ (by decide), Lib.validD_cons _ _ (by decide), whole_of _ hv]; decide
  · rw [e, List.any_cons, List.any_cons, List.any_append, hc]; decide
theorem clean_join (a b t x : ByteArray) (hv : Lib.validD a.data.toList = true) (hc : a.data.toList.any ctl = false) (hs : t.data.toList = sq a.data.toList) (h0 : t ≠ ⟨#[]⟩)
    (hv2 : Lib.validD b.data.toList = true) (hc2 : b.data.toList.any ctl = false) (hs2 : x.data.toList = sq b.data.toList) (h02 : x ≠ ⟨#[]⟩) (h1 : (t.size : Int) + 1 + (x.size : Int) ≤ 64) : cleanS (a ++ (⟨#[32]⟩ : ByteArray) ++ b) = (t ++ (⟨#[32]⟩ : ByteArray) ++ x, 0) := by
  have e : (a ++ (⟨#[32]⟩ : ByteArray) ++ b).data.toList = a.data.toList ++ 32 :: b.data.toList := by simp [ByteArray.data_append]
  have e2 : (t ++ (⟨#[32]⟩ : ByteArray) ++ x).data.toList = t.data.toList ++ 32 :: x.data.toList := by simp [ByteArray.data_append]
  have ne : ∀ z : ByteArray, z ≠ ⟨#[]⟩ → z.data.toList ≠ [] := fun z h h' => h (bs_ext (by rw [h']))
  have hz : (t ++ (⟨#[32]⟩ : ByteArray) ++ x).size = t.size + 1 + x.size := by rw [bs_size, e2, bs_size t, bs_size x]; simp; omega
  refine clean_mk _ _ ?_ ?_ ?_ ?_ (by rw [hz]; omega)
  · rw [e, whole_of _ hv, Lib.validD_cons _ _ (by decide)]; exact hv2
  · rw [e, List.any_append, List.any_cons, hc, hc2]; decide
  · rw [e, e2, sq_join _ _ (by rw [← hs]; exact ne t h0) (by rw [← hs2]; exact ne x h02), hs, hs2]
  · intro h
    have := congrArg ByteArray.size h
    rw [hz] at this
    have h3 : (⟨#[]⟩ : ByteArray).size = 0 := rfl
    omega
theorem ne32 {c : UInt8} (h : c ≠ 32) : ((c.toNat : Int) == 32) = false := by
  cases e : ((c.toNat : Int) == 32) with
  | false => rfl
  | true => exact absurd ((isB_iff c).1 e) h
theorem neat_hd {t : ByteArray} (hN : Neat t.data.toList) (h : 0 < t.size) : t[0] ≠ 32 := fun e => hN.hd (by rw [List.getElem?_eq_getElem (by simpa using h)]; exact congrArg some e)
theorem neat_tl {t : ByteArray} (hN : Neat t.data.toList) {n : Nat} (hn : t.size = n + 1) : t[n] ≠ 32 := fun e => hN.tl (by
  have : t.data.toList.length - 1 = n := by rw [← bs_size]; omega
  rw [this, List.getElem?_eq_getElem (by rw [← bs_size]; omega)]; exact congrArg some e)
theorem neat_dbl {t : ByteArray} (hN : Neat t.data.toList) {m : Nat} (hm : m + 1 < t.size) (h : t[m] = 32) : t[m + 1] ≠ 32 := fun e => hN.dbl m (by rw [List.getElem?_eq_getElem (by rw [← bs_size]; omega)]; exact congrArg some h) (by rw [List.getElem?_eq_getElem (by rw [← bs_size]; omega)]; exact congrArg some e)
theorem clean_on {w : World} (hT : Tabs w) (s : ByteArray) (hs : s.size ≤ 1000000) (r : ByteArray) (k : Int) (hr : cleanS s = (r, k)) (v : World) (h : Below w.heap.size w v) : Calls Tryd.prog 8 #[.string s] v fun e v' => e = .returned (.tuple #[.string r, .int .i64 k]) ∧ Below w.heap.size w v' := by
  refine (clean_any s hs v (tabs_on hT h (tabs_size hT))).mono ?_
  rintro e v' ⟨rfl, h2⟩
  exact ⟨by rw [hr], h.trans (h2.mono h.size)⟩
end Go.Proofs.YtbigenlmbomoeaaDoor
