/- Telephone numbers: what the texts are, in plain words. -/
import Derived.Test.YthknkglhppngoaaDoorPv
import Derived.Lib.TrimByte
namespace Go.Proofs.YthknkglhppngoaaDoor
open Go.RowKit
open Go.Lib hiding intOf
set_option linter.unusedVariables false
def isDig (c : UInt8) : Bool := decide (48 ≤ (c.toNat : Int)) && decide ((c.toNat : Int) ≤ 57)
def dgsL (l : List UInt8) : List UInt8 := trimPrefix l [43]
def telB (l : List UInt8) : Bool := decide (3 ≤ ((dgsL l).length : Int)) && decide (((dgsL l).length : Int) ≤ 15) && (dgsL l).all isDig
def betw (c : UInt8) : Bool := c == 32 || c == 45 || c == 46 || c == 47 || c == 40 || c == 41
def bareL (l : List UInt8) : List UInt8 := l.filter (fun c => !betw c)
def telOf (t : ByteArray) (k : Int) : ByteArray × Int := if k = 0 then (if telB (bareL t.data.toList) = true then (⟨(bareL t.data.toList).toArray⟩, 0) else (⟨#[]⟩, 1)) else (⟨#[]⟩, k)
def telS (s : ByteArray) : ByteArray × Int := telOf (cleanS s).1 (cleanS s).2
/-- Three digits together, the first k of them. -/
def showK (d : List UInt8) : Nat → List UInt8
  | 0 => []
  | k + 1 => (if 0 < k ∧ k % 3 = 0 then showK d k ++ [32] else showK d k) ++ [d.getD k 0]
def showL (l : List UInt8) : List UInt8 := if telB l = true then l.take (l.length - (dgsL l).length) ++ showK (dgsL l) (dgsL l).length else []
def rowL (l : List UInt8) : List UInt8 := trimLeftB (dgsL l) 48
def matchL (x y : List UInt8) : Bool := if x.length < y.length then decide (5 ≤ (x.length : Int)) && hasSuffix y x else decide (5 ≤ (y.length : Int)) && hasSuffix x y
def matchB (a b : List UInt8) : Bool := telB a && telB b && matchL (rowL a) (rowL b)
theorem run_len : ∀ (l : List UInt8) (g : Bool) (o : List UInt8), (run (g, o) l).2.length ≤ o.length + l.length + (if g = true ∧ o ≠ [] then 1 else 0)
  | [], g, o => by show o.length ≤ _; omega
  | c :: t, g, o => by
    by_cases hc : c = 32
    · subst hc
      have ih := run_len t true o
      show (run (sqStep (g, o) 32) t).2.length ≤ _
      rw [step_b]
      have : (if true = true ∧ o ≠ [] then 1 else 0) ≤ 1 := by split <;> omega
      simp only [List.length_cons]
      omega
    · show (run (sqStep (g, o) c) t).2.length ≤ _
      rw [step_n _ _ hc]
      have ih := run_len t false ((if g = true ∧ o ≠ [] then o ++ [32] else o) ++ [c])
      simp only [Bool.false_eq_true, false_and, if_false, List.length_append, List.length_cons, List.length_nil] at ih ⊢
      refine Nat.le_trans ih ?_
      split <;> simp <;> omega
theorem sq_len (l : List UInt8) : (sq l).length ≤ l.length := by
  have := run_len l false []
  show (run (false, []) l).2.length ≤ _
  simpa using this
theorem bare_app (a b : List UInt8) : bareL (a ++ b) = bareL a ++ bareL b := List.filter_append ..
theorem run_bare : ∀ (l : List UInt8) (g : Bool) (o : List UInt8), bareL (run (g, o) l).2 = bareL o ++ bareL l
  | [], g, o => by show bareL o = _; simp [bareL]
  | c :: t, g, o => by
    have e : c :: t = [c] ++ t := rfl
    by_cases hc : c = 32
    · subst hc
      show bareL (run (sqStep (g, o) 32) t).2 = _
      rw [step_b, run_bare t, e, bare_app]
      rfl
    · show bareL (run (sqStep (g, o) c) t).2 = _
      rw [step_n _ _ hc, run_bare t, bare_app, e, bare_app]
      have : bareL (if g = true ∧ o ≠ [] then o ++ [32] else o) = bareL o := by
        split
        · rw [bare_app]; simp [bareL, betw]
        · rfl
      show bareL (if g = true ∧ o ≠ [] then o ++ [32] else o) ++ bareL [c] ++ bareL t = _
      rw [this, List.append_assoc]
theorem sq_bare (l : List UInt8) : bareL (sq l) = bareL l := by
  have := run_bare l false []
  show bareL (run (false, []) l).2 = _
  simpa [bareL] using this
theorem tascii_valid : ∀ (l : List UInt8), (∀ c ∈ l, c.toNat < 128) → validD l = true
  | [], _ => rfl
  | c :: t, h => by rw [validD_cons c t (h c (by simp))]; exact tascii_valid t (fun d hd => h d (by simp [hd]))
theorem tplain_ctl (l : List UInt8) (h : ∀ c ∈ l, 32 ≤ c.toNat ∧ c.toNat ≤ 126) : l.any ctl = false := by
  rw [List.any_eq_false]
  intro c hc
  have := h c hc
  unfold ctl
  simp only [Bool.or_eq_true, decide_eq_true_eq, beq_iff_eq]
  omega
theorem tbs_list (l : List UInt8) : (⟨l.toArray⟩ : ByteArray).data.toList = l := rfl
/-- Whatever stands between digits: the number is the same. -/
theorem tel_of (x : List UInt8) (h : ∀ c ∈ x, 32 ≤ c.toNat ∧ c.toNat ≤ 126) (hl : x.length ≤ 64) (ht : telB (bareL x) = true) : telS ⟨x.toArray⟩ = (⟨(bareL x).toArray⟩, 0) := by
  have hne : bareL x ≠ [] := by
    intro e
    rw [e] at ht
    exact absurd ht (by decide)
  have hsq : sq x ≠ [] := by
    intro e
    have := sq_bare x
    rw [e] at this
    exact hne (this.symm.trans rfl)
  have hc : cleanS ⟨x.toArray⟩ = (⟨(sq x).toArray⟩, 0) := by
    unfold cleanS
    rw [tbs_list, tascii_valid x (fun c hc => by have := h c hc; omega), tplain_ctl x h, squeezeS_sq, tbs_list]
    unfold cleanOf
    have h1 := sq_len x
    rw [if_neg (by decide), if_neg (fun e => hsq (by have := congrArg (fun b : ByteArray => b.data.toList) e; simpa using this)), if_neg (by
      show ¬ (64 < (((sq x).toArray.size : Nat) : Int))
      simp; omega)]
  unfold telS telOf
  rw [hc]
  simp only [if_true, sq_bare, ht]
theorem dgs_split (l : List UInt8) : ∃ p, l = p ++ dgsL l ∧ (p = [] ∨ p = [43]) ∧ p = l.take (l.length - (dgsL l).length) := by
  unfold dgsL trimPrefix
  by_cases h : hasPrefix l [43] = true
  · rw [if_pos h]
    cases l with
    | nil => cases h
    | cons c t =>
      have hc : c = 43 := by unfold hasPrefix at h; simp [List.isPrefixOf] at h; exact h.symm
      subst hc
      exact ⟨[43], rfl, .inr rfl, by simp⟩
  · rw [if_neg h]
    exact ⟨[], rfl, .inl rfl, by simp⟩
theorem telB_iff (l : List UInt8) : telB l = true ↔ 3 ≤ (dgsL l).length ∧ (dgsL l).length ≤ 15 ∧ ∀ c ∈ dgsL l, isDig c = true := by
  unfold telB
  simp only [Bool.and_eq_true, decide_eq_true_eq, List.all_eq_true]
  constructor
  · rintro ⟨⟨a, b⟩, c⟩; exact ⟨by omega, by omega, c⟩
  · rintro ⟨a, b, c⟩; exact ⟨⟨by omega, by omega⟩, c⟩
theorem dig_iff (c : UInt8) : isDig c = true ↔ 48 ≤ c.toNat ∧ c.toNat ≤ 57 := by
  unfold isDig
  simp only [Bool.and_eq_true, decide_eq_true_eq]
  omega
theorem betw_cases (c : UInt8) (h : betw c = true) : 32 ≤ c.toNat ∧ c.toNat ≤ 47 ∧ c.toNat ≠ 43 := by
  unfold betw at h
  simp only [Bool.or_eq_true, beq_iff_eq] at h
  rcases h with ((((h | h) | h) | h) | h) | h <;> subst h <;> decide
theorem bare_id (l : List UInt8) (h : ∀ c ∈ l, betw c = false) : bareL l = l := by
  unfold bareL
  exact List.filter_eq_self.2 (fun c hc => by rw [h c hc]; rfl)
theorem dig_not (c : UInt8) (h : isDig c = true) : betw c = false := by
  have := (dig_iff c).1 h
  cases e : betw c with
  | false => rfl
  | true => have := betw_cases c e; omega
theorem tel_plain {l : List UInt8} (h : telB l = true) : (∀ c ∈ l, betw c = false ∧ 32 ≤ c.toNat ∧ c.toNat ≤ 126) ∧ l.length ≤ 16 := by
  obtain ⟨h1, h2, h3⟩ := (telB_iff l).1 h
  obtain ⟨p, hl, hp, _⟩ := dgs_split l
  constructor
  · intro c hc
    rw [hl] at hc
    rcases List.mem_append.1 hc with hc | hc
    · rcases hp with rfl | rfl
      · cases hc
      · simp at hc; subst hc; decide
    · have := (dig_iff c).1 (h3 c hc)
      exact ⟨dig_not c (h3 c hc), by omega, by omega⟩
  · have := congrArg List.length hl
    rw [List.length_append] at this
    have hp2 : p.length ≤ 1 := by rcases hp with rfl | rfl <;> simp
    omega
theorem tel_self {l : List UInt8} (h : telB l = true) : telS ⟨l.toArray⟩ = (⟨l.toArray⟩, 0) := by
  obtain ⟨h1, h2⟩ := tel_plain h
  have hb : bareL l = l := bare_id l (fun c hc => (h1 c hc).1)
  have := tel_of l (fun c hc => (h1 c hc).2) (by omega) (by rw [hb]; exact h)
  rwa [hb] at this
theorem tel_between {l : List UInt8} (h : telB l = true) (j : Nat) (g : UInt8) (hg : betw g = true) : telS ⟨(l.take j ++ [g] ++ l.drop j).toArray⟩ = (⟨l.toArray⟩, 0) := by
  obtain ⟨h1, h2⟩ := tel_plain h
  have hb : bareL l = l := bare_id l (fun c hc => (h1 c hc).1)
  have e : bareL (l.take j ++ [g] ++ l.drop j) = l := by
    rw [bare_app, bare_app]
    have : bareL [g] = [] := by simp [bareL, hg]
    rw [this, List.append_nil, ← bare_app, List.take_append_drop, hb]
  have := tel_of (l.take j ++ [g] ++ l.drop j) (fun c hc => by
    rcases List.mem_append.1 hc with hc | hc
    · rcases List.mem_append.1 hc with hc | hc
      · exact (h1 c (List.mem_of_mem_take hc)).2
      · simp at hc; subst hc; have := betw_cases c hg; omega
    · exact (h1 c (List.mem_of_mem_drop hc)).2) (by simp; omega) (by rw [e]; exact h)
  rwa [e] at this
theorem showK_bare (d : List UInt8) (h : ∀ c ∈ d, isDig c = true) : ∀ k, k ≤ d.length → bareL (showK d k) = d.take k
  | 0, _ => rfl
  | k + 1, hk => by
    have ih := showK_bare d h k (by omega)
    have hd : d.getD k 0 = d[k] := by rw [List.getD_eq_getElem?_getD, List.getElem?_eq_getElem (by omega)]; rfl
    unfold showK
    rw [bare_app, hd, List.take_succ_eq_append_getElem (by omega)]
    congr 1
    · split
      · rw [bare_app, ih]; simp [bareL, betw]
      · exact ih
    · exact bare_id _ (fun c hc => by simp at hc; subst hc; exact dig_not _ (h _ (List.getElem_mem _)))
theorem showK_plain (d : List UInt8) (h : ∀ c ∈ d, isDig c = true) : ∀ k, k ≤ d.length → (∀ c ∈ showK d k, 32 ≤ c.toNat ∧ c.toNat ≤ 126) ∧ k ≤ (showK d k).length ∧ (showK d k).length ≤ 2 * k
  | 0, _ => by simp [showK]
  | k + 1, hk => by
    obtain ⟨i1, i2, i3⟩ := showK_plain d h k (by omega)
    have hd : d.getD k 0 = d[k] := by rw [List.getD_eq_getElem?_getD, List.getElem?_eq_getElem (by omega)]; rfl
    unfold showK
    rw [hd]
    refine ⟨fun c hc => ?_, by split <;> simp <;> omega, by split <;> simp <;> omega⟩
    rcases List.mem_append.1 hc with hc | hc
    · split at hc
      · rcases List.mem_append.1 hc with hc | hc
        · exact i1 c hc
        · simp at hc; subst hc; decide
      · exact i1 c hc
    · simp at hc
      have := (dig_iff c).1 (by rw [hc]; exact h _ (List.getElem_mem _))
      omega
theorem tel_show {l : List UInt8} (h : telB l = true) : telS ⟨(showL l).toArray⟩ = (⟨l.toArray⟩, 0) ∧ l.length ≤ (showL l).length ∧ (showL l).length ≤ 31 := by
  obtain ⟨h1, h2, h3⟩ := (telB_iff l).1 h
  obtain ⟨p, hl, hp, hpt⟩ := dgs_split l
  have hp2 : p.length ≤ 1 := by rcases hp with rfl | rfl <;> simp
  have hpb : bareL p = p := by rcases hp with rfl | rfl <;> rfl
  obtain ⟨k1, k2, k3⟩ := showK_plain _ h3 _ (Nat.le_refl _)
  have hs : showL l = p ++ showK (dgsL l) (dgsL l).length := by unfold showL; rw [if_pos h, ← hpt]
  have e : bareL (showL l) = l := by
    rw [hs, bare_app, hpb, showK_bare _ h3 _ (Nat.le_refl _), List.take_length, ← hl]
  have hlen : l.length = p.length + (dgsL l).length := by have := congrArg List.length hl; rwa [List.length_append] at this
  refine ⟨?_, by rw [hs, List.length_append]; omega, by rw [hs, List.length_append]; omega⟩
  have := tel_of (showL l) (fun c hc => by
    rw [hs] at hc
    rcases List.mem_append.1 hc with hc | hc
    · rcases hp with rfl | rfl
      · cases hc
      · simp at hc; subst hc; decide
    · exact k1 c hc) (by rw [hs, List.length_append]; omega) (by rw [e]; exact h)
  rwa [e] at this
/-- What Canon gives is a number, or nothing; and then the text was none. -/
theorem tel_cases (s : ByteArray) : ((telS s).2 = 0 ∧ telB (telS s).1.data.toList = true) ∨ ((telS s).2 ≠ 0 ∧ (telS s).1 = ⟨#[]⟩ ∧ telB s.data.toList = false) := by
  by_cases h : telB s.data.toList = true
  · have := tel_self h
    have e : (⟨s.data.toList.toArray⟩ : ByteArray) = s := rfl
    rw [e] at this
    left
    rw [this]
    exact ⟨rfl, h⟩
  · have h' : telB s.data.toList = false := by simpa using h
    unfold telS telOf
    by_cases hk : (cleanS s).2 = 0
    · rw [if_pos hk]
      by_cases ht : telB (bareL (cleanS s).1.data.toList) = true
      · rw [if_pos ht]; exact .inl ⟨rfl, ht⟩
      · rw [if_neg ht]; exact .inr ⟨by simp, rfl, h'⟩
    · rw [if_neg hk]; exact .inr ⟨hk, rfl, h'⟩
end Go.Proofs.YthknkglhppngoaaDoor
