/- The reference's lock: Holders. -/
import Derived.Test.YtkhlimlcnlalgaaPb
namespace Go.Proofs.Ytkhlimlcnlalgaa
open Go.RowKit Go.Maps
open Go.Lib
open Go.ChangeShapes Go.ChangeAt
set_option linter.unusedVariables false
set_option linter.unusedSimpArgs false
set_option maxRecDepth 100000
def ahdP (p q : Int) : Prop := p < q
def ahdB (p q : Int) : Bool := decide (p < q)
def posP (p : Int) (K : List Int) : Nat → Nat
  | 0 => 0
  | k + 1 => match K[k]? with
    | some r => if ahdB p r = true then posP p K k else k + 1
    | none => k + 1
def putAt (p : Int) (K : List Int) (k : Nat) : List Int := K.take k ++ p :: K.drop k
def rIns (K : List Int) (p : Int) : List Int := putAt p K (posP p K K.length)
def rHd (L : List Int) : List Int := L.foldl rIns []
theorem putAt_len (p : Int) (K : List Int) (k : Nat) (h : k ≤ K.length) : (putAt p K k).length = K.length + 1 := by
  unfold putAt
  rw [List.length_append, List.length_cons, List.length_take, List.length_drop]
  omega
theorem putAt_at (p : Int) (K : List Int) (k : Nat) (h : k ≤ K.length) : (putAt p K k)[k]? = some p := by
  unfold putAt
  rw [List.getElem?_append_right (by rw [List.length_take]; omega), List.length_take, Nat.min_eq_left h, Nat.sub_self]
  rfl
theorem putAt_left (p : Int) (K : List Int) (k j : Nat) (h : k ≤ K.length) (hj : j < k) : (putAt p K k)[j]? = K[j]? := by
  unfold putAt
  rw [List.getElem?_append_left (by rw [List.length_take]; omega), List.getElem?_take, if_pos hj]
theorem putAt_end (p : Int) (K : List Int) : putAt p K K.length = K ++ [p] := by
  unfold putAt
  rw [List.take_length, List.drop_length]
/-- One place back. -/
theorem putAt_swap (p r : Int) (K : List Int) (k : Nat) (h : k + 1 ≤ K.length) (hr : K[k]? = some r) : ((putAt p K (k + 1)).set k p).set (k + 1) r = putAt p K k := by
  apply List.ext_getElem?
  intro j
  have hl := putAt_len p K (k + 1) h
  rw [List.getElem?_set, List.getElem?_set]
  by_cases h1 : k + 1 = j
  · subst h1
    rw [if_pos rfl, if_pos (by rw [List.length_set, hl]; omega)]
    unfold putAt
    rw [List.getElem?_append_right (by rw [List.length_take]; omega), List.length_take, Nat.min_eq_left (by omega), show k + 1 - k = 1 by omega, List.getElem?_cons_succ, List.getElem?_drop, Nat.add_zero, hr]
  · rw [if_neg h1]
    by_cases h2 : k = j
    · subst h2
      rw [if_pos rfl, if_pos (by rw [hl]; omega), putAt_at p K k (by omega)]
    · rw [if_neg h2]
      by_cases h3 : j < k
      · rw [putAt_left p K (k + 1) j h (by omega), putAt_left p K k j (by omega) h3]
      · unfold putAt
        rw [List.getElem?_append_right (by rw [List.length_take]; omega), List.getElem?_append_right (by rw [List.length_take]; omega), List.length_take, List.length_take, Nat.min_eq_left h, Nat.min_eq_left (by omega)]
        obtain ⟨m, rfl⟩ : ∃ m, j = k + 2 + m := ⟨j - (k + 2), by omega⟩
        rw [show k + 2 + m - (k + 1) = m + 1 by omega, show k + 2 + m - k = m + 1 + 1 by omega, List.getElem?_cons_succ, List.getElem?_cons_succ, List.getElem?_drop, List.getElem?_drop]
        congr 1
        omega
theorem rIns_len (K : List Int) (p : Int) : (rIns K p).length = K.length + 1 := by
  unfold rIns
  refine putAt_len p K _ ?_
  have : ∀ k, k ≤ K.length → posP p K k ≤ K.length := by
    intro k
    induction k with
    | zero => intro _; exact Nat.zero_le _
    | succ k ih =>
      intro hk
      unfold posP
      split
      · split
        · exact ih (by omega)
        · omega
      · omega
  exact this _ (Nat.le_refl _)
/-- Two lists in one strict order that hold the same are one. -/
theorem strict_eq {α : Type} {r : α → α → Prop} (ir : ∀ x, ¬ r x x) (tr : ∀ x y z, r x y → r y z → r x z) : ∀ (l m : List α), l.Pairwise r → m.Pairwise r → (∀ x, x ∈ l ↔ x ∈ m) → l = m
  | [], [], _, _, _ => rfl
  | [], b :: m, _, _, h => by have := (h b).2 (by simp); cases this
  | a :: l, [], _, _, h => by have := (h a).1 (by simp); cases this
  | a :: l, b :: m, h1, h2, h => by
    obtain ⟨p1, p2⟩ := List.pairwise_cons.1 h1
    obtain ⟨q1, q2⟩ := List.pairwise_cons.1 h2
    have hab : a = b := by
      rcases List.mem_cons.1 ((h a).1 (by simp)) with e | e
      · exact e
      · rcases List.mem_cons.1 ((h b).2 (by simp)) with f | f
        · exact f.symm
        · exact absurd (tr _ _ _ (p1 b f) (q1 a e)) (ir a)
    subst hab
    refine congrArg (a :: ·) (strict_eq ir tr l m p2 q2 (fun x => ⟨fun hx => ?_, fun hx => ?_⟩))
    · rcases List.mem_cons.1 ((h x).1 (List.mem_cons_of_mem _ hx)) with e | e
      · subst e; exact absurd (p1 x hx) (ir x)
      · exact e
    · rcases List.mem_cons.1 ((h x).2 (List.mem_cons_of_mem _ hx)) with e | e
      · subst e; exact absurd (q1 x hx) (ir x)
      · exact e
theorem ahdB_iff (p q : Int) : ahdB p q = true ↔ ahdP p q := by
  unfold ahdB ahdP
  simp
theorem ahdP_irrefl (p : Int) : ¬ ahdP p p := by unfold ahdP; omega
theorem ahdP_trans (p q r : Int) (h1 : ahdP p q) (h2 : ahdP q r) : ahdP p r := by unfold ahdP at *; omega
theorem ahdP_tot (p q : Int) (hne : p ≠ q) (h : ¬ ahdP p q) : ahdP q p := by unfold ahdP at *; omega
theorem putAt_mem (p r : Int) (K : List Int) (k : Nat) : r ∈ putAt p K k ↔ r = p ∨ r ∈ K := by
  unfold putAt
  conv => rhs; rw [← List.take_append_drop k K]
  simp only [List.mem_append, List.mem_cons]
  constructor
  · rintro (h | h | h)
    · exact .inr (.inl h)
    · exact .inl h
    · exact .inr (.inr h)
  · rintro (h | h | h)
    · exact .inr (.inl h)
    · exact .inl h
    · exact .inr (.inr h)
theorem rIns_mem (p r : Int) (K : List Int) : r ∈ rIns K p ↔ r = p ∨ r ∈ K := putAt_mem _ _ _ _
theorem foldl_mem (r : Int) : ∀ (M K : List Int), r ∈ M.foldl rIns K ↔ r ∈ M ∨ r ∈ K
  | [], K => by simp
  | p :: M, K => by
    rw [List.foldl_cons, foldl_mem r M, rIns_mem, List.mem_cons]
    constructor
    · rintro (h | h | h)
      · exact .inl (.inr h)
      · exact .inl (.inl h)
      · exact .inr h
    · rintro ((h | h) | h)
      · exact .inr (.inl h)
      · exact .inl h
      · exact .inr (.inr h)
theorem posP_spec (p : Int) (K : List Int) : ∀ k, k ≤ K.length → posP p K k ≤ k ∧ (∀ j r, posP p K k ≤ j → j < k → K[j]? = some r → ahdP p r) ∧ (∀ r, 0 < posP p K k → K[posP p K k - 1]? = some r → ¬ ahdP p r)
  | 0, _ => ⟨Nat.le_refl _, fun j r _ h => absurd h (Nat.not_lt_zero _), fun r h => absurd h (Nat.lt_irrefl _)⟩
  | k + 1, hk => by
    obtain ⟨r0, hr0⟩ : ∃ r, K[k]? = some r := ⟨K[k], List.getElem?_eq_getElem _⟩
    have e : posP p K (k + 1) = if ahdB p r0 = true then posP p K k else k + 1 := by conv => lhs; unfold posP; rw [hr0]
    obtain ⟨i1, i2, i3⟩ := posP_spec p K k (by omega)
    by_cases hb : ahdB p r0 = true
    · rw [if_pos hb] at e
      rw [e]
      refine ⟨by omega, fun j r h1 h2 h3 => ?_, i3⟩
      by_cases hj : j = k
      · subst hj
        rw [hr0] at h3
        cases h3
        exact (ahdB_iff _ _).1 hb
      · exact i2 j r h1 (by omega) h3
    · rw [if_neg hb] at e
      rw [e]
      refine ⟨Nat.le_refl _, fun j r h1 h2 => by omega, fun r _ h => ?_⟩
      rw [show k + 1 - 1 = k by omega, hr0] at h
      cases h
      exact fun hh => hb ((ahdB_iff _ _).2 hh)
theorem rIns_sorted (p : Int) (K : List Int) (hs : K.Pairwise ahdP) (hp : ∀ r ∈ K, r ≠ p) : (rIns K p).Pairwise ahdP := by
  obtain ⟨i1, i2, i3⟩ := posP_spec p K K.length (Nat.le_refl _)
  unfold rIns putAt
  obtain ⟨k, hk⟩ : ∃ k, posP p K K.length = k := ⟨_, rfl⟩
  rw [hk] at i1 i2 i3 ⊢
  rw [← List.take_append_drop k K] at hs
  obtain ⟨s1, s2, s3⟩ := List.pairwise_append.1 hs
  have hd : ∀ r ∈ K.drop k, ahdP p r := fun r hr => by
    obtain ⟨j, hj⟩ := List.getElem?_of_mem hr
    rw [List.getElem?_drop] at hj
    exact i2 (k + j) r (by omega) (List.getElem?_eq_some_iff.1 hj).1 hj
  have ht : ∀ r ∈ K.take k, ahdP r p := fun r hr => by
    obtain ⟨j, hj⟩ := List.getElem?_of_mem hr
    have hjk : j < k := by
      have := (List.getElem?_eq_some_iff.1 hj).1
      rw [List.length_take] at this
      omega
    rw [List.getElem?_take, if_pos hjk] at hj
    obtain ⟨z, hz⟩ : ∃ z, K[k - 1]? = some z := ⟨K[k - 1], List.getElem?_eq_getElem _⟩
    have hzp : ahdP z p := ahdP_tot p z (fun e => hp z (List.mem_of_getElem? hz) e.symm) (i3 z (by omega) hz)
    by_cases hjz : j = k - 1
    · subst hjz
      rw [hz] at hj
      cases hj
      exact hzp
    · refine ahdP_trans _ z _ ?_ hzp
      have hs' := List.pairwise_iff_getElem.1 (List.take_append_drop k K ▸ hs)
      obtain ⟨l1, e1⟩ := List.getElem?_eq_some_iff.1 hj
      obtain ⟨l2, e2⟩ := List.getElem?_eq_some_iff.1 hz
      have := hs' j (k - 1) l1 l2 (by omega)
      rwa [e1, e2] at this
  refine List.pairwise_append.2 ⟨s1, List.pairwise_cons.2 ⟨hd, s2⟩, fun a ha b hb => ?_⟩
  rcases List.mem_cons.1 hb with rfl | hb
  · exact ht a ha
  · exact s3 a ha b hb
theorem foldl_sorted : ∀ (M K : List Int), K.Pairwise ahdP → M.Nodup → (∀ r ∈ K, ∀ p ∈ M, r ≠ p) → (M.foldl rIns K).Pairwise ahdP
  | [], K, h, _, _ => h
  | p :: M, K, h, hn, hd => by
    rw [List.nodup_cons] at hn
    refine foldl_sorted M _ (rIns_sorted p K h (fun r hr => hd r hr p (by simp))) hn.2 (fun r hr q hq => ?_)
    rcases (rIns_mem p r K).1 hr with rfl | hr
    · intro e
      exact hn.1 (e ▸ hq)
    · exact hd r hr q (List.mem_cons_of_mem _ hq)
theorem rHd_sorted {L : List Int} (h : L.Nodup) : (rHd L).Pairwise (· < ·) := foldl_sorted L [] List.Pairwise.nil h (fun r hr => by cases hr)
theorem rHd_mem {L : List Int} {x : Int} : x ∈ rHd L ↔ x ∈ L := by unfold rHd; rw [foldl_mem]; simp
theorem rHd_srt {H : List Pq} (h : (keysOf H).Nodup) : rHd (keysOf H) = srtK H :=
  strict_eq (r := fun a b : Int => a < b) (fun x => Int.lt_irrefl x) (fun x y z h1 h2 => Int.lt_trans h1 h2) _ _ (rHd_sorted h) (srtK_rise h) (fun x => by rw [rHd_mem, srtK_mem])
theorem rHd_snoc (L : List Int) (x : Int) : rHd (L ++ [x]) = rIns (rHd L) x := by unfold rHd; rw [List.foldl_append]; rfl
theorem foldl_len : ∀ (M K : List Int), (M.foldl rIns K).length = K.length + M.length
  | [], K => by simp
  | p :: M, K => by
    rw [List.foldl_cons, foldl_len M, rIns_len, List.length_cons]
    omega
theorem rHd_len (L : List Int) : (rHd L).length = L.length := by unfold rHd; rw [foldl_len]; simp
end Go.Proofs.Ytkhlimlcnlalgaa
