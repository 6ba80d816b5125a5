/- What an answer makes of a copy: the maths. -/
import Derived.Test.YtpmgabeefppajaaItm
import Derived.Test.YtpmgabeefppajaaOt
namespace Go.Proofs.Ytpmgabeefppajaa
open Go.RowKit
set_option linter.unusedVariables false
abbrev LK := List (ByteArray × (Int × ByteArray))
def tk1 (L : LK) (t : It) : LK := if t.x = true then delL t.u L else insL t.u (t.v, t.c) L
def takes (L : LK) (xs : List It) : LK := xs.foldl tk1 L
theorem tk1_srt {L : LK} (h : Srt L) (t : It) : Srt (tk1 L t) := by
  unfold tk1
  split
  · exact h.del _
  · exact h.ins
theorem takes_srt : ∀ {xs : List It} {L : LK}, Srt L → Srt (takes L xs)
  | [], L, h => h
  | t :: xs, L, h => takes_srt (xs := xs) (tk1_srt h t)
theorem tk1_len {L : LK} (h : Srt L) (t : It) : (tk1 L t).length ≤ L.length + 1 := by
  unfold tk1
  split
  · have := delL_len (k := t.u) h; omega
  · rw [insL_len h]; split <;> omega
theorem takes_snoc (L : LK) (xs : List It) (q : Nat) (t : It) (h : xs[q]? = some t) : takes L (xs.take (q + 1)) = tk1 (takes L (xs.take q)) t := by
  unfold takes
  rw [List.take_add_one, h]
  simp
theorem takes_len : ∀ {xs : List It} {L : LK}, Srt L → (takes L xs).length ≤ L.length + xs.length
  | [], L, h => Nat.le_refl _
  | t :: xs, L, h => by
    have h1 := takes_len (xs := xs) (tk1_srt h t)
    have h2 := tk1_len h t
    have e : takes L (t :: xs) = takes (tk1 L t) xs := rfl
    rw [e]
    simp only [List.length_cons]
    omega
theorem takes_append (L : LK) (xs ys : List It) : takes L (xs ++ ys) = takes (takes L xs) ys := List.foldl_append
/-- An item may come, when these have. -/
def okI (a : Int) (seen : List ByteArray) (t : It) : Bool := !(seen.any fun u => decide (u = t.u)) && decide (1 ≤ t.v) && (decide (a = 0) || decide (a < t.v))
def okAt (a : Int) (xs : List It) (q : Nat) : Bool :=
  match xs[q]? with
  | none => true
  | some t => okI a ((xs.take q).map It.u) t
def okTo (a : Int) (xs : List It) (q : Nat) : Bool := (List.range q).all (okAt a xs)
def folB (a tok : Int) (xs : List It) : Bool := decide (a ≤ tok) && okTo a xs xs.length
theorem okTo_zero (a : Int) (xs : List It) : okTo a xs 0 = true := rfl
theorem okTo_snoc (a : Int) (xs : List It) (q : Nat) : okTo a xs (q + 1) = (okTo a xs q && okAt a xs q) := by
  unfold okTo
  rw [List.range_succ, List.all_append]
  simp
theorem okAt_some {a : Int} {xs : List It} {q : Nat} {t : It} (h : xs[q]? = some t) : okAt a xs q = okI a ((xs.take q).map It.u) t := by unfold okAt; rw [h]
theorem okTo_miss {a : Int} {xs : List It} {q : Nat} (hq : q < xs.length) (h : okAt a xs q = false) : okTo a xs xs.length = false := by
  unfold okTo
  rw [List.all_eq_false]
  exact ⟨q, List.mem_range.2 hq, by rw [h]; decide⟩
theorem okTo_iff {a : Int} {xs : List It} : okTo a xs xs.length = true ↔ (xs.map It.u).Nodup ∧ ∀ t ∈ xs, 1 ≤ t.v ∧ (a = 0 ∨ a < t.v) := by
  unfold okTo
  rw [List.all_eq_true]
  constructor
  · intro h
    have key : ∀ q (hq : q < xs.length), okI a ((xs.take q).map It.u) xs[q] = true := fun q hq => by
      rw [← okAt_some (List.getElem?_eq_getElem hq)]
      exact h q (List.mem_range.2 hq)
    refine ⟨?_, fun t ht => ?_⟩
    · unfold List.Nodup
      rw [List.pairwise_iff_getElem]
      intro i j hi hj hij e
      have hi' : i < xs.length := by simpa using hi
      have hj' : j < xs.length := by simpa using hj
      have := key j hj'
      simp only [okI, Bool.and_eq_true, Bool.not_eq_true', List.any_eq_false, decide_eq_true_eq] at this
      refine this.1.1 ((xs.map It.u)[i]) ?_ (by simpa using e)
      rw [List.mem_iff_getElem]
      exact ⟨i, by simp; omega, by simp⟩
    · obtain ⟨q, hq, rfl⟩ := List.mem_iff_getElem.1 ht
      have := key q hq
      simp only [okI, Bool.and_eq_true, decide_eq_true_eq, Bool.or_eq_true] at this
      exact ⟨this.1.2, this.2⟩
  · rintro ⟨h1, h2⟩ q hq
    have hq' := List.mem_range.1 hq
    rw [okAt_some (List.getElem?_eq_getElem hq')]
    have h3 := h2 xs[q] (List.getElem_mem _)
    simp only [okI, Bool.and_eq_true, Bool.not_eq_true', List.any_eq_false, decide_eq_true_eq, Bool.or_eq_true]
    refine ⟨⟨fun u hm e0 => ?_, h3.1⟩, h3.2⟩
    subst e0
    obtain ⟨t, ht, e⟩ := List.mem_map.1 hm
    obtain ⟨i, hi, rfl⟩ := List.mem_iff_getElem.1 ht
    simp only [List.length_take] at hi
    rw [List.getElem_take] at e
    unfold List.Nodup at h1
    rw [List.pairwise_iff_getElem] at h1
    exact h1 i q (by simp; omega) (by simpa using hq') (by omega) (by simpa using e)
structure Rs where
  L : LK
  tk : Int
  mo : Bool
def foldE (R : Rs) (asked k e tok : Int) (xs : List It) : Int :=
  if k ≠ 8 ∨ asked ≠ R.tk then 10 else if e = 8 then 0 else if e ≠ 0 then 10 else if folB asked tok xs = true then 0 else 1
def foldR (R : Rs) (asked k e tok : Int) (more : Bool) (xs : List It) : Rs :=
  if k ≠ 8 ∨ asked ≠ R.tk then R else if e = 8 then ⟨[], 0, false⟩ else if e ≠ 0 then R else if folB asked tok xs = true then ⟨takes (if asked = 0 then [] else R.L) xs, tok, more⟩ else R
def itK (p : ByteArray × (Int × ByteArray)) : It := ⟨p.1, p.2.1, false, p.2.2⟩
def itsK (L : LK) : List It := L.map itK
/-- Two rising lists with the same at each key are one. -/
theorem srt_ext : ∀ {L M : LK}, Srt L → Srt M → (∀ j, getL j L = getL j M) → L = M
  | [], [], _, _, _ => rfl
  | [], q :: M, _, hM, h => by
    have := h q.1
    rw [getL_cons, if_pos rfl] at this
    cases this
  | p :: L, [], _, _, h => by
    have := h p.1
    rw [getL_cons, if_pos rfl] at this
    cases this
  | p :: L, q :: M, hL, hM, h => by
    have hL' := List.pairwise_cons.1 hL
    have hM' := List.pairwise_cons.1 hM
    have lowL : ∀ {j}, klt j p.1 = true → getL j (p :: L) = none := fun {j} hj => by
      refine getL_none fun a ha e => ?_
      subst e
      rcases List.mem_cons.1 ha with rfl | ha
      · rw [klt_irr] at hj; cases hj
      · rw [klt_asym (hL'.1 a ha)] at hj; cases hj
    have lowM : ∀ {j}, klt j q.1 = true → getL j (q :: M) = none := fun {j} hj => by
      refine getL_none fun a ha e => ?_
      subst e
      rcases List.mem_cons.1 ha with rfl | ha
      · rw [klt_irr] at hj; cases hj
      · rw [klt_asym (hM'.1 a ha)] at hj; cases hj
    have e1 : p.1 = q.1 := by
      by_cases e : p.1 = q.1
      · exact e
      · rcases klt_total e with hk | hk
        · have := h p.1
          rw [lowM hk, getL_cons, if_pos rfl] at this
          cases this
        · have := h q.1
          rw [lowL hk, getL_cons, if_pos rfl] at this
          cases this
    have e2 : p.2 = q.2 := by
      have := h p.1
      rw [getL_cons, if_pos rfl, getL_cons, if_pos e1] at this
      exact Option.some.inj this
    have e3 : p = q := Prod.ext e1 e2
    subst e3
    refine congrArg (p :: ·) (srt_ext hL'.2 hM'.2 fun j => ?_)
    by_cases e : j = p.1
    · subst e
      rw [getL_none (fun a ha e => by have := hL'.1 a ha; rw [e, klt_irr] at this; cases this), getL_none (fun a ha e => by have := hM'.1 a ha; rw [e, klt_irr] at this; cases this)]
    · have := h j
      rw [getL_cons, if_neg e, getL_cons, if_neg e] at this
      exact this
theorem getL_tk1 {L : LK} (h : Srt L) (t : It) (j : ByteArray) : getL j (tk1 L t) = if j = t.u then (if t.x = true then none else some (t.v, t.c)) else getL j L := by
  unfold tk1
  by_cases hx : t.x = true
  · rw [if_pos hx, getL_del, if_pos hx]
  · rw [if_neg hx, getL_ins h, if_neg hx]
theorem getL_takes_none {j : ByteArray} : ∀ {xs : List It} {L : LK}, Srt L → (∀ t ∈ xs, t.u ≠ j) → getL j (takes L xs) = getL j L
  | [], L, _, _ => rfl
  | t :: xs, L, h, hn => by
    have e : takes L (t :: xs) = takes (tk1 L t) xs := rfl
    rw [e, getL_takes_none (xs := xs) (tk1_srt h t) (fun s hs => hn s (List.mem_cons_of_mem _ hs)), getL_tk1 h, if_neg (fun e => hn t List.mem_cons_self e.symm)]
theorem getL_takes_some {t : It} : ∀ {xs : List It} {L : LK}, Srt L → (xs.map It.u).Nodup → t ∈ xs → getL t.u (takes L xs) = if t.x = true then none else some (t.v, t.c)
  | s :: xs, L, h, hn, hm => by
    have e : takes L (s :: xs) = takes (tk1 L s) xs := rfl
    have hn' := List.nodup_cons.1 hn
    rw [e]
    rcases List.mem_cons.1 hm with rfl | hm
    · rw [getL_takes_none (tk1_srt h _) (fun r hr e => hn'.1 (by rw [← e]; exact List.mem_map_of_mem hr)), getL_tk1 h, if_pos rfl]
    · exact getL_takes_some (tk1_srt h s) hn'.2 hm
theorem takes_rev {L : LK} (h : Srt L) {xs : List It} (hn : (xs.map It.u).Nodup) : takes L xs.reverse = takes L xs := by
  have hr : (xs.reverse.map It.u).Nodup := by rw [List.map_reverse]; exact (List.reverse_perm _).nodup_iff.2 hn
  refine srt_ext (takes_srt h) (takes_srt h) fun j => ?_
  by_cases hj : ∃ t ∈ xs, t.u = j
  · obtain ⟨t, ht, rfl⟩ := hj
    rw [getL_takes_some h hr (by simpa using ht), getL_takes_some h hn ht]
  · have hj' : ∀ t ∈ xs, t.u ≠ j := fun t ht e => hj ⟨t, ht, e⟩
    rw [getL_takes_none h (fun t ht => hj' t (by simpa using ht)), getL_takes_none h hj']
theorem folB_rev (a tok : Int) (xs : List It) : folB a tok xs.reverse = folB a tok xs := by
  have : okTo a xs.reverse xs.reverse.length = okTo a xs xs.length := by
    rw [Bool.eq_iff_iff, okTo_iff, okTo_iff, List.map_reverse]
    refine and_congr (List.reverse_perm _).nodup_iff ?_
    simp
  unfold folB
  rw [this]
theorem foldE_rev (R : Rs) (asked k e tok : Int) (xs : List It) : foldE R asked k e tok xs.reverse = foldE R asked k e tok xs := by
  unfold foldE
  rw [folB_rev]
theorem foldR_rev (R : Rs) (hs : Srt R.L) (asked k e tok : Int) (more : Bool) (xs : List It) : foldR R asked k e tok more xs.reverse = foldR R asked k e tok more xs := by
  unfold foldR
  rw [folB_rev]
  split
  · rfl
  · split
    · rfl
    · split
      · rfl
      · split
        · rename_i hf
          rw [takes_rev (by split; exact List.Pairwise.nil; exact hs)]
          unfold folB at hf
          simp only [Bool.and_eq_true] at hf
          exact (okTo_iff.1 hf.2).1
        · rfl
theorem foldR_srt {R : Rs} (hs : Srt R.L) (asked k e tok : Int) (more : Bool) (xs : List It) : Srt (foldR R asked k e tok more xs).L := by
  unfold foldR
  split
  · exact hs
  · split
    · exact List.Pairwise.nil
    · split
      · exact hs
      · split
        · exact takes_srt (by split; exact List.Pairwise.nil; exact hs)
        · exact hs
theorem foldR_len {R : Rs} (hs : Srt R.L) (asked k e tok : Int) (more : Bool) (xs : List It) : (foldR R asked k e tok more xs).L.length ≤ R.L.length + xs.length := by
  unfold foldR
  split
  · omega
  · split
    · exact Nat.zero_le _
    · split
      · omega
      · split
        · have := takes_len (xs := xs) (L := if asked = 0 then [] else R.L) (by split; exact List.Pairwise.nil; exact hs)
          have h2 : (if asked = 0 then [] else R.L).length ≤ R.L.length := by split <;> simp
          show (takes _ xs).length ≤ _
          omega
        · omega
/-- In two parts. -/
theorem folB_cut {a tok m : Int} {xs : List It} {at_ : Nat} (h : folB 0 tok xs = true) (hm1 : 1 ≤ m) (hm : m ≤ tok) (hv : ∀ t ∈ xs.drop at_, m < t.v) : folB 0 m (xs.take at_) = true ∧ folB m tok (xs.drop at_) = true := by
  unfold folB at *
  simp only [Bool.and_eq_true, decide_eq_true_eq] at *
  obtain ⟨h1, h2⟩ := okTo_iff.1 h.2
  refine ⟨⟨by omega, okTo_iff.2 ⟨?_, fun t ht => h2 t (List.mem_of_mem_take ht)⟩⟩, ⟨hm, okTo_iff.2 ⟨?_, fun t ht => ⟨(h2 t (List.mem_of_mem_drop ht)).1, .inr (hv t ht)⟩⟩⟩⟩
  · rw [List.map_take]; exact h1.sublist (List.take_sublist _ _)
  · rw [List.map_drop]; exact h1.sublist (List.drop_sublist _ _)
end Go.Proofs.Ytpmgabeefppajaa
