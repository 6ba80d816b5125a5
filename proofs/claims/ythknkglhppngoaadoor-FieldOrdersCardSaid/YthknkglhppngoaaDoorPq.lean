/- A text squeezed: what it is. -/
import Derived.Test.YthknkglhppngoaaDoorCl
namespace Go.Proofs.YthknkglhppngoaaDoor
open Go.RowKit
set_option linter.unusedVariables false
def isB (c : UInt8) : Bool := (c.toNat : Int) == 32
theorem isB_iff (c : UInt8) : isB c = true ↔ c = 32 := by
  unfold isB
  constructor
  · intro h
    have h : (c.toNat : Int) = 32 := by simpa using h
    exact UInt8.toNat_inj.1 (by show c.toNat = 32; omega)
  · rintro rfl; rfl
def run (x : Bool × List UInt8) (l : List UInt8) : Bool × List UInt8 := l.foldl sqStep x
def sq (l : List UInt8) : List UInt8 := (run (false, []) l).2
theorem squeezeS_sq (s : ByteArray) : squeezeS s = ⟨(sq s.data.toList).toArray⟩ := by
  unfold squeezeS sqAt sq run
  rw [List.take_of_length_le (by simp)]
theorem run_app (x : Bool × List UInt8) (l m : List UInt8) : run x (l ++ m) = run (run x l) m := by unfold run; rw [List.foldl_append]
theorem run_cons (x : Bool × List UInt8) (c : UInt8) (m : List UInt8) : run x (c :: m) = run (sqStep x c) m := rfl
theorem step_b (x : Bool × List UInt8) : sqStep x 32 = (true, x.2) := by unfold sqStep; rw [if_pos (by decide)]
theorem step_n (x : Bool × List UInt8) (c : UInt8) (h : c ≠ 32) : sqStep x c = (false, (if x.1 = true ∧ x.2 ≠ [] then x.2 ++ [32] else x.2) ++ [c]) := by
  unfold sqStep
  rw [if_neg (show ¬ ((c.toNat : Int) == 32) = true from fun e => h ((isB_iff c).1 e))]
  congr 2
  by_cases e : x.2 = []
  · rw [e]; simp
  · have : 0 < x.2.length := List.length_pos_iff.2 e
    cases x.1 <;> simp [e, this]
/-- What is squeezed squeezes to itself. -/
theorem run_self : ∀ (l : List UInt8) (g : Bool) (o : List UInt8), run (false, []) o = (false, o) → run (false, []) (run (g, o) l).2 = (false, (run (g, o) l).2)
  | [], _, _, h => h
  | c :: l, g, o, h => by
    rw [run_cons]
    by_cases hc : c = 32
    · subst hc; rw [step_b]; exact run_self l _ _ h
    · rw [step_n _ _ hc]
      refine run_self l _ _ ?_
      simp only
      by_cases hg : g = true ∧ o ≠ []
      · rw [if_pos hg, run_app, run_app, h]
        show sqStep (sqStep (false, o) 32) c = _
        rw [step_b, step_n _ _ hc]
        simp only
        rw [if_pos ⟨trivial, hg.2⟩]
      · rw [if_neg hg, run_app, h]
        show sqStep (false, o) c = _
        rw [step_n _ _ hc]
        rw [if_neg (by simp)]
theorem sq_sq (l : List UInt8) : sq (sq l) = sq l := by
  have := run_self l false [] rfl
  unfold sq
  rw [this]
/-- Blanks ahead say nothing. -/
theorem run_g0 : ∀ (l : List UInt8) (g : Bool), (run (g, []) l).2 = sq l
  | [], _ => rfl
  | c :: l, g => by
    unfold sq
    rw [run_cons, run_cons]
    by_cases hc : c = 32
    · subst hc; rw [step_b, step_b]
    · rw [step_n _ _ hc, step_n _ _ hc]; simp
theorem sq_blanks (l : List UInt8) : sq (32 :: 32 :: (l ++ [32])) = sq l := by
  show (run (false, []) (32 :: 32 :: (l ++ [32]))).2 = sq l
  rw [run_cons, run_cons, run_app, step_b, step_b]
  show (sqStep _ 32).2 = _
  rw [step_b]
  exact run_g0 l true
/-- Two texts with a blank between. -/
theorem run_on : ∀ (l : List UInt8) (g : Bool) (o p : List UInt8), p ≠ [] → (run (g, o ++ 32 :: p) l).2 = o ++ 32 :: (run (g, p) l).2
  | [], _, _, _, _ => rfl
  | c :: l, g, o, p, h => by
    rw [run_cons, run_cons]
    by_cases hc : c = 32
    · subst hc; rw [step_b, step_b]; exact run_on l _ o p h
    · rw [step_n _ _ hc, step_n _ _ hc]
      simp only
      by_cases hg : g = true
      · rw [if_pos ⟨hg, by simp⟩, if_pos ⟨hg, h⟩]
        have := run_on l false o (p ++ [32] ++ [c]) (by simp)
        simpa using this
      · rw [if_neg (fun e => hg e.1), if_neg (fun e => hg e.1)]
        have := run_on l false o (p ++ [c]) (by simp)
        simpa using this
theorem run_join : ∀ (l o : List UInt8), o ≠ [] → sq l ≠ [] → (run (true, o) l).2 = o ++ 32 :: sq l
  | [], _, _, h => absurd rfl h
  | c :: l, o, ho, h => by
    unfold sq at h ⊢
    rw [run_cons] at h ⊢
    rw [run_cons]
    by_cases hc : c = 32
    · subst hc
      rw [step_b] at h ⊢
      rw [step_b]
      have e : (run (true, []) l).2 = sq l := run_g0 l true
      have h' : (run (true, []) l).2 ≠ [] := h
      show (run (true, o) l).2 = o ++ 32 :: (run (true, []) l).2
      rw [e] at h' ⊢
      exact run_join l o ho h'
    · rw [step_n _ _ hc, step_n _ _ hc]
      simp only
      rw [if_pos ⟨trivial, ho⟩, if_neg (fun e => e.2 rfl)]
      have := run_on l false o [c] (by simp)
      simpa using this
theorem sq_join (a b : List UInt8) (ha : sq a ≠ []) (hb : sq b ≠ []) : sq (a ++ 32 :: b) = sq a ++ 32 :: sq b := by
  show (run (false, []) (a ++ 32 :: b)).2 = _
  rw [run_app, run_cons, step_b]
  exact run_join b _ ha hb
/-- Neat: no blank at the ends, none in a row. -/
structure Neat (o : List UInt8) : Prop where
  hd : o[0]? ≠ some 32
  tl : o[o.length - 1]? ≠ some 32
  dbl : ∀ i : Nat, o[i]? = some 32 → o[i + 1]? ≠ some 32
theorem Neat.nil : Neat [] := ⟨by simp, by simp, by simp⟩
theorem Neat.put {o : List UInt8} (h : Neat o) {c : UInt8} (hc : c ≠ 32) : Neat (o ++ [c]) := by
  refine ⟨?_, by simp [hc], ?_⟩
  · cases o with
    | nil => simpa using hc
    | cons x y => have := h.hd; simpa using this
  · intro i hi
    by_cases e : i + 1 < o.length
    · rw [List.getElem?_append_left (by omega)] at hi
      rw [List.getElem?_append_left e]; exact h.dbl i hi
    · by_cases e2 : i + 1 = o.length
      · rw [e2, List.getElem?_append_right (Nat.le_refl _)]; simpa using hc
      · rw [List.getElem?_eq_none (by simp; omega)]; simp
theorem Neat.put2 {o : List UInt8} (h : Neat o) {c : UInt8} (hc : c ≠ 32) (h0 : o ≠ []) : Neat (o ++ [32] ++ [c]) := by
  have hl : 0 < o.length := List.length_pos_iff.2 h0
  refine ⟨?_, by simp [hc], ?_⟩
  · have := h.hd
    rw [List.append_assoc, List.getElem?_append_left hl]; exact this
  · intro i hi
    rw [List.append_assoc] at hi ⊢
    by_cases e : i + 1 < o.length
    · rw [List.getElem?_append_left (by omega)] at hi
      rw [List.getElem?_append_left e]; exact h.dbl i hi
    · by_cases e2 : i + 1 = o.length
      · rw [List.getElem?_append_left (by omega)] at hi
        have : i = o.length - 1 := by omega
        subst this
        exact absurd hi h.tl
      · by_cases e3 : i = o.length
        · subst e3
          rw [List.getElem?_append_right (by omega)]; simpa using hc
        · rw [List.getElem?_append_right (by omega), List.getElem?_eq_none (by simp; omega)]; simp
theorem run_neat : ∀ (l : List UInt8) (g : Bool) (o : List UInt8), Neat o → Neat (run (g, o) l).2
  | [], _, _, h => h
  | c :: l, g, o, h => by
    rw [run_cons]
    by_cases hc : c = 32
    · subst hc; rw [step_b]; exact run_neat l _ _ h
    · rw [step_n _ _ hc]
      refine run_neat l _ _ ?_
      simp only
      by_cases hg : g = true ∧ o ≠ []
      · rw [if_pos hg]; exact h.put2 hc hg.2
      · rw [if_neg hg]; exact h.put hc
theorem sq_neat (l : List UInt8) : Neat (sq l) := run_neat l false [] Neat.nil
theorem run_mem : ∀ (l : List UInt8) (g : Bool) (o : List UInt8) (c : UInt8), c ∈ (run (g, o) l).2 → c ∈ o ∨ c ∈ l ∨ c = 32
  | [], _, _, _, h => .inl h
  | d :: l, g, o, c, h => by
    rw [run_cons] at h
    by_cases hd : d = 32
    · subst hd; rw [step_b] at h
      rcases run_mem l _ _ c h with h | h | h
      · exact .inl h
      · exact .inr (.inl (List.mem_cons.2 (.inr h)))
      · exact .inr (.inr h)
    · rw [step_n _ _ hd] at h
      rcases run_mem l _ _ c h with h | h | h
      · simp only at h
        split at h
        · simp only [List.mem_append, List.mem_singleton] at h
          rcases h with (h | h) | h
          · exact .inl h
          · exact .inr (.inr h)
          · exact .inr (.inl (by rw [h]; exact List.mem_cons_self))
        · simp only [List.mem_append, List.mem_singleton] at h
          rcases h with h | h
          · exact .inl h
          · exact .inr (.inl (by rw [h]; exact List.mem_cons_self))
      · exact .inr (.inl (List.mem_cons.2 (.inr h)))
      · exact .inr (.inr h)
theorem sq_ctl (l : List UInt8) (h : l.any ctl = false) : (sq l).any ctl = false := by
  rw [List.any_eq_false] at h ⊢
  intro c hc
  rcases run_mem l false [] c hc with h1 | h1 | h1
  · simp at h1
  · exact h c h1
  · subst h1; decide
end Go.Proofs.YthknkglhppngoaaDoor
