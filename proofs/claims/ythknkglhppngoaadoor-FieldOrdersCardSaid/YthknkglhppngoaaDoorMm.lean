/- Addresses: what the texts are, in plain words. -/
import Derived.Test.YthknkglhppngoaaDoorPv
import Derived.Test.YthknkglhppngoaaDoorFf
import Derived.Lib.IndexMore
import Derived.Lib.IndexLaws
import Derived.Lib.CountLaws
import Derived.Lib.CutLaws
import Derived.Lib.SplitLaws
import Derived.Lib.LastIndexByte
namespace Go.Proofs.YthknkglhppngoaaDoor
open Go.RowKit
open Go.Lib hiding intOf
set_option linter.unusedVariables false
def capB (c : UInt8) : Bool := decide (65 ≤ (c.toNat : Int)) && decide ((c.toNat : Int) ≤ 90)
def lowB (c : UInt8) : Bool := decide (97 ≤ (c.toNat : Int)) && decide ((c.toNat : Int) ≤ 122)
def numB (c : UInt8) : Bool := decide (48 ≤ (c.toNat : Int)) && decide ((c.toNat : Int) ≤ 57)
def sodB (c : UInt8) : Bool := lowB c || numB c
def dotC (c : UInt8) : Bool := c == 46 || c == 95 || c == 43 || c == 45
def locC (c : UInt8) : Bool := capB c || sodB c || dotC c
def labC (c : UInt8) : Bool := sodB c || (c.toNat : Int) == 45
/-- Two dots, one behind the other. -/
def adj : List UInt8 → Bool
  | [] => false
  | c :: t => (c == 46 && t.head? == some 46) || adj t
def localB (l : List UInt8) : Bool := decide (1 ≤ (l.length : Int)) && decide ((l.length : Int) ≤ 32) && !adj ([46] ++ l ++ [46]) && l.all locC
def labelB (l : List UInt8) : Bool := decide (1 ≤ (l.length : Int)) && decide ((l.length : Int) ≤ 20) && !(l.getD 0 0 == 45) && !(l.getD (l.length - 1) 0 == 45) && l.all labC
def splitL : List UInt8 → List (List UInt8)
  | [] => [[]]
  | c :: t => if c = 46 then [] :: splitL t else match splitL t with
    | [] => [[c]]
    | h :: r => (c :: h) :: r
def domB (l : List UInt8) : Bool := decide (2 ≤ ((splitL l).length : Int)) && (splitL l).all labelB
def mailB (l : List UInt8) : Bool := (cut l [64]).2.2 && decide ((l.length : Int) ≤ 64) && localB (cut l [64]).1 && domB (cut l [64]).2.1
def atN (t : ByteArray) : Nat := (lastIndexByte t 64 + 1).toNat
def lowAt (t : ByteArray) : ByteArray := t.extract 0 (atN t) ++ lowS (t.extract (atN t) t.size)
def mailOf (t : ByteArray) (k : Int) : ByteArray × Int := if k = 0 then (if mailB (lowAt t).data.toList = true then (lowAt t, 0) else (⟨#[]⟩, 1)) else (⟨#[]⟩, k)
def mailS (s : ByteArray) : ByteArray × Int := mailOf (cleanS s).1 (cleanS s).2
theorem index_has (a b : List UInt8) (c : UInt8) (h : c ∉ a) : index (a ++ c :: b) [c] = a.length := by
  induction a with
  | nil => simp [index, List.isPrefixOf]
  | cons x t ih =>
    have hx : ¬ c = x := fun e => h (by simp [e])
    have ih := ih (fun e => h (by simp [e]))
    rw [List.cons_append]
    unfold index
    rw [if_neg (by simpa [List.isPrefixOf] using hx), ih, if_neg (by rw [beq_iff_eq]; omega)]
    simp
theorem index_not (l : List UInt8) (c : UInt8) (h : c ∉ l) : index l [c] = -1 := by
  induction l with
  | nil => rfl
  | cons x t ih =>
    have hx : ¬ c = x := fun e => h (by simp [e])
    have ih := ih (fun e => h (by simp [e]))
    unfold index
    rw [if_neg (by simpa [List.isPrefixOf] using hx), ih]; rfl
theorem cut_has (a b : List UInt8) (c : UInt8) (h : c ∉ a) : cut (a ++ c :: b) [c] = (a, b, true) := by
  unfold cut
  rw [index_has a b c h, if_pos (by omega)]
  simp
theorem cut_not (l : List UInt8) (c : UInt8) (h : c ∉ l) : cut l [c] = (l, [], false) := by
  unfold cut
  rw [index_not l c h, if_neg (by decide)]
theorem first_at (l : List UInt8) (c : UInt8) (h : c ∈ l) : ∃ a b, l = a ++ c :: b ∧ c ∉ a := by
  induction l with
  | nil => cases h
  | cons x t ih =>
    by_cases hx : x = c
    · exact ⟨[], t, by rw [hx]; rfl, by simp⟩
    · have : c ∈ t := by rcases List.mem_cons.1 h with e | e; exact absurd e.symm hx; exact e
      obtain ⟨a, b, e, ha⟩ := ih this
      exact ⟨x :: a, b, by rw [e]; rfl, by simp only [List.mem_cons, not_or]; exact ⟨fun e => hx e.symm, ha⟩⟩
theorem adj_cons (c : UInt8) (t : List UInt8) : adj (c :: t) = ((c == 46 && t.head? == some 46) || adj t) := rfl
theorem contains_adj (l : List UInt8) : contains l [46, 46] = adj l := by
  unfold contains
  induction l with
  | nil => rfl
  | cons c t ih =>
    rw [adj_cons, ← ih, show index (c :: t) [46, 46] = if [46, 46].isPrefixOf (c :: t) then 0 else if index t [46, 46] == -1 then -1 else index t [46, 46] + 1 from rfl]
    have hge := index_ge t [46, 46]
    have hp : [46, 46].isPrefixOf (c :: t) = (c == 46 && t.head? == some 46) := by
      cases t with
      | nil => simp [List.isPrefixOf]
      | cons d r => simp only [List.isPrefixOf, Bool.and_true, List.head?_cons]; rw [Bool.beq_comm (a := 46) (b := c)]; congr 1; rw [Bool.beq_comm]; simp
    rw [hp]
    by_cases h1 : (c == 46 && t.head? == some 46) = true
    · rw [if_pos h1, h1]; rfl
    · have h1' : (c == 46 && t.head? == some 46) = false := by simpa using h1
      rw [if_neg h1, h1', Bool.false_or]
      by_cases h2 : (index t [46, 46] == -1) = true
      · rw [if_pos h2]
        have := beq_iff_eq.1 h2
        rw [this]
      · rw [if_neg h2]
        have h3 : index t [46, 46] ≠ -1 := fun e => h2 (beq_iff_eq.2 e)
        rw [decide_eq_true (by omega), decide_eq_true (by omega)]
theorem split_cons (c : UInt8) (t : List UInt8) : splitL (c :: t) = if c = 46 then [] :: splitL t else match splitL t with
    | [] => [[c]]
    | h :: r => (c :: h) :: r := rfl
theorem split_ne (l : List UInt8) : splitL l ≠ [] := by
  cases l with
  | nil => simp [splitL]
  | cons c t => unfold splitL; split; simp; split <;> simp
theorem split_app (a b : List UInt8) (h : (46 : UInt8) ∉ a) : splitL (a ++ 46 :: b) = a :: splitL b := by
  induction a with
  | nil => simp [splitL]
  | cons x t ih =>
    have hx : ¬ x = 46 := fun e => h (by simp [e])
    rw [List.cons_append, split_cons, if_neg hx, ih (fun e => h (by simp [e]))]
theorem split_pre (a b : List UInt8) (h : (46 : UInt8) ∉ a) : ∃ hd r, splitL b = hd :: r ∧ splitL (a ++ b) = (a ++ hd) :: r := by
  induction a with
  | nil =>
    cases hb : splitL b with
    | nil => exact absurd hb (split_ne b)
    | cons hd r => exact ⟨hd, r, rfl, hb⟩
  | cons x t ih =>
    have hx : ¬ x = 46 := fun e => h (by simp [e])
    obtain ⟨hd, r, e1, e2⟩ := ih (fun e => h (by simp [e]))
    refine ⟨hd, r, e1, ?_⟩
    rw [List.cons_append, split_cons, if_neg hx, e2]
    rfl
theorem split_one (a : List UInt8) (h : (46 : UInt8) ∉ a) : splitL a = [a] := by
  obtain ⟨hd, r, e1, e2⟩ := split_pre a [] h
  rw [List.append_nil] at e2
  rw [show splitL [] = [[]] from rfl] at e1
  cases e1
  rw [e2, List.append_nil]
theorem split_both (a b : List UInt8) : splitL (a ++ 46 :: b) = splitL a ++ splitL b := by
  by_cases h : (46 : UInt8) ∈ a
  · obtain ⟨n, hn⟩ : ∃ n, a.length ≤ n := ⟨_, Nat.le_refl _⟩
    induction n generalizing a with
    | zero => have := List.eq_nil_of_length_eq_zero (Nat.le_zero.1 hn); subst this; cases h
    | succ n ih =>
      obtain ⟨p, q, rfl, hp⟩ := first_at a 46 h
      rw [List.append_assoc, List.cons_append, split_app p _ hp, split_app p q hp]
      by_cases hq : (46 : UInt8) ∈ q
      · rw [ih q hq (by simp at hn; omega)]; rfl
      · rw [split_app q b hq, split_one q hq]; rfl
  · rw [split_app a b h, split_one a h]; rfl
theorem splitB_list : ∀ (n : Nat) (s : ByteArray), s.size ≤ n → (splitB ⟨#[46]⟩ 0 (countB s ⟨#[46]⟩) s).map (fun b => b.data.toList) = splitL s.data.toList := by
  intro n
  induction n with
  | zero =>
    intro s hs
    have hn : s.data.toList = [] := List.eq_nil_of_length_eq_zero (by simpa using Nat.le_zero.1 hs)
    have hi : indexB s ⟨#[46]⟩ = -1 := by show index s.data.toList [46] = -1; rw [hn]; rfl
    rw [countB_miss s _ hi, splitB_zero, hn]
    simp [hn, splitL]
  | succ n ih =>
    intro s hs
    by_cases h : (46 : UInt8) ∈ s.data.toList
    · obtain ⟨a, b, e, ha⟩ := first_at _ _ h
      have hi : indexB s ⟨#[46]⟩ = (a.length : Int) := by show index s.data.toList [46] = _; rw [e]; exact index_has a b 46 ha
      have hsz : s.size = a.length + 1 + b.length := by
        have : s.data.toList.length = s.size := by simp
        rw [e] at this; simp at this; omega
      have hx : (s.extract (a.length + 1) s.size).data.toList = b := by
        have h1 : (s.extract (a.length + 1) s.size).data.toList = s.data.toList.drop (a.length + 1) := by simp [List.take_of_length_le]
        rw [h1, e, show a ++ 46 :: b = (a ++ [46]) ++ b by simp]
        exact List.drop_left' (by simp)
      have hx0 : (s.extract 0 a.length).data.toList = a := by
        have h1 : (s.extract 0 a.length).data.toList = s.data.toList.take a.length := by simp
        rw [h1, e]; simp
      have hc := countB_hit s ⟨#[46]⟩ a.length (Nat.le_refl _) hi
      rw [hc, Nat.add_comm]
      unfold splitB
      rw [if_neg (by rw [hi]; simp), hi]
      have hz : (⟨#[46]⟩ : ByteArray).size = 1 := rfl
      rw [Int.toNat_natCast, hz, Nat.add_zero, List.map_cons, ih _ (by rw [ByteArray.size_extract]; omega), hx0, hx, e, split_app a b ha]
    · have hi : indexB s ⟨#[46]⟩ = -1 := index_not _ _ h
      rw [countB_miss s _ hi, splitB_zero, split_one _ h]
      rfl
theorem count_len (s : ByteArray) : countB s ⟨#[46]⟩ + 1 = (splitL s.data.toList).length := by
  have h := congrArg List.length (splitB_list s.size s (Nat.le_refl _))
  rw [List.length_map, splitB_all ⟨#[46]⟩ (Nat.le_refl _) 0 _ s rfl] at h
  exact h
end Go.Proofs.YthknkglhppngoaaDoor
