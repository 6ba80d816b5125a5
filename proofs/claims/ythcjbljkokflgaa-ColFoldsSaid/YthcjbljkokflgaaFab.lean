/- A region in a round of a range over a function goes as anywhere; a load that the region itself writes over at its end. -/
import Derived.Test.YthcjbljkokflgaaFaa
import Derived.RangeFuncNested
import Derived.RangeFuncBound
import Derived.RangeFuncLeaves
import Derived.OrdersHeld
import Derived.Deep.RegionHeld
import Derived.OwnWalkIn
import Derived.TacticsInMore
set_option linter.unnecessarySimpa false
/- Trees: their maths (put, del, glue, what stands in them in order). -/
namespace Go.Proofs.Ythcjbljkokflgaa
open Go.RowKit
set_option linter.unusedVariables false
set_option linter.unusedSimpArgs false
def klt (a b : ByteArray) : Bool := Op.bytesLess a.toList b.toList
theorem klt_irr (a : ByteArray) : klt a a = false := bl_irr _
theorem klt_asym {a b : ByteArray} (h : klt a b = true) : klt b a = false := bl_asym _ _ h
theorem klt_trans {a b c : ByteArray} (h : klt a b = true) (k : klt b c = true) : klt a c = true := bl_trans _ _ _ h k
theorem key_ext {a b : ByteArray} (h : a.toList = b.toList) : a = b := by
  rw [ByteArray.toList_eq, ByteArray.toList_eq] at h
  exact ByteArray.ext (Array.toList_inj.1 h)
theorem klt_total {a b : ByteArray} (h : a ≠ b) : klt a b = true ∨ klt b a = true := bl_total _ _ (fun e => h (key_ext e))
theorem keq {a b : ByteArray} : (a.toList == b.toList) = decide (a = b) := by
  by_cases h : a = b
  · subst h; simp
  · rw [decide_eq_false h]
    exact beq_false_of_ne (fun e => h (key_ext e))
inductive Tr (α : Type) where
  | nil : Tr α
  | node (k : ByteArray) (v : α) (l r : Tr α) : Tr α
namespace Tr
variable {α β : Type}
def size : Tr α → Nat
  | .nil => 0
  | .node _ _ l r => size l + 1 + size r
def ino : Tr α → List (ByteArray × α)
  | .nil => []
  | .node k v l r => ino l ++ (k, v) :: ino r
theorem size_ino : ∀ T : Tr α, T.size = T.ino.length
  | .nil => rfl
  | .node k v l r => by
    unfold size ino
    rw [List.length_append, List.length_cons, size_ino l, size_ino r]; omega
def turnL (l : Tr α) (k : ByteArray) (v : α) (r : Tr α) : Tr α :=
  match r with
  | .nil => .node k v l .nil
  | .node rk rv rl rr =>
    if 2 * rr.size ≤ rl.size then
      match rl with
      | .nil => .node k v l (.node rk rv .nil rr)
      | .node ik iv il ir => .node ik iv (.node k v l il) (.node rk rv ir rr)
    else .node rk rv (.node k v l rl) rr
def turnR (l : Tr α) (k : ByteArray) (v : α) (r : Tr α) : Tr α :=
  match l with
  | .nil => .node k v .nil r
  | .node lk lv ll lr =>
    if 2 * ll.size ≤ lr.size then
      match lr with
      | .nil => .node k v (.node lk lv ll .nil) r
      | .node ik iv il ir => .node ik iv (.node lk lv ll il) (.node k v ir r)
    else .node lk lv ll (.node k v lr r)
def bal (l : Tr α) (k : ByteArray) (v : α) (r : Tr α) : Tr α :=
  if l.size + r.size < 2 then .node k v l r
  else if 3 * l.size < r.size then turnL l k v r
  else if 3 * r.size < l.size then turnR l k v r
  else .node k v l r
theorem ino_turnL (l : Tr α) (k : ByteArray) (v : α) (r : Tr α) : (turnL l k v r).ino = l.ino ++ (k, v) :: r.ino := by
  unfold turnL
  cases r with
  | nil => rfl
  | node rk rv rl rr =>
    simp only
    split
    · cases rl with
      | nil => rfl
      | node ik iv il ir => simp [ino]
    · simp [ino]
theorem ino_turnR (l : Tr α) (k : ByteArray) (v : α) (r : Tr α) : (turnR l k v r).ino = l.ino ++ (k, v) :: r.ino := by
  unfold turnR
  cases l with
  | nil => rfl
  | node lk lv ll lr =>
    simp only
    split
    · cases lr with
      | nil => simp [ino]
      | node ik iv il ir => simp [ino]
    · simp [ino]
theorem ino_bal (l : Tr α) (k : ByteArray) (v : α) (r : Tr α) : (bal l k v r).ino = l.ino ++ (k, v) :: r.ino := by
  unfold bal
  split
  · rfl
  split
  · exact ino_turnL l k v r
  split
  · exact ino_turnR l k v r
  · rfl
def put (k : ByteArray) (v : α) : Tr α → Tr α
  | .nil => .node k v .nil .nil
  | .node k' v' l r => if klt k k' = true then bal (put k v l) k' v' r else if k = k' then .node k v l r else bal l k' v' (put k v r)
def lst : Tr α → Option (ByteArray × α)
  | .nil => none
  | .node k v _ .nil => some (k, v)
  | .node _ _ _ (.node k v l r) => lst (.node k v l r)
def fst : Tr α → Option (ByteArray × α)
  | .nil => none
  | .node k v .nil _ => some (k, v)
  | .node _ _ (.node k v l r) _ => fst (.node k v l r)
/-- Both sides without what stood between them; dl, dr: how each side loses a key. -/
def glueW (l r : Tr α) (dl dr : ByteArray → Tr α) : Tr α :=
  match l, r with
  | .nil, r => r
  | l, .nil => l
  | l, r => if r.size < l.size then (match lst l with
      | some p => bal (dl p.1) p.1 p.2 r
      | none => r) else (match fst r with
      | some p => bal l p.1 p.2 (dr p.1)
      | none => l)
def del : Tr α → ByteArray → Tr α
  | .nil, _ => .nil
  | .node k' v' l r, k => if klt k k' = true then bal (del l k) k' v' r else if k = k' then glueW l r (del l) (del r) else bal l k' v' (del r k)
def get (k : ByteArray) : Tr α → Option α
  | .nil => none
  | .node k' v' l r => if klt k k' = true then get k l else if k = k' then some v' else get k r
theorem lst_ino : ∀ T : Tr α, T.lst = T.ino.getLast?
  | .nil => rfl
  | .node k v l .nil => by simp [lst, ino]
  | .node k v l (.node k2 v2 l2 r2) => by
    have := lst_ino (.node k2 v2 l2 r2)
    unfold lst
    rw [this]
    simp [ino, List.getLast?_append, List.getLast?_cons]
theorem fst_ino : ∀ T : Tr α, T.fst = T.ino.head?
  | .nil => rfl
  | .node k v .nil r => by simp [fst, ino]
  | .node k v (.node k2 v2 l2 r2) r => by
    have := fst_ino (.node k2 v2 l2 r2)
    unfold fst
    rw [this]
    simp [ino, List.head?_append]
end Tr
section
variable {α β : Type}
def Srt (L : List (ByteArray × α)) : Prop := L.Pairwise fun a b => klt a.1 b.1 = true
def insL (k : ByteArray) (v : α) : List (ByteArray × α) → List (ByteArray × α)
  | [] => [(k, v)]
  | p :: L => if klt k p.1 = true then (k, v) :: p :: L else if k = p.1 then (k, v) :: L else p :: insL k v L
def delL (k : ByteArray) (L : List (ByteArray × α)) : List (ByteArray × α) := L.filter fun p => decide (p.1 ≠ k)
def getL (k : ByteArray) : List (ByteArray × α) → Option α
  | [] => none
  | p :: L => if k = p.1 then some p.2 else getL k L
theorem getL_cons (k : ByteArray) (p : ByteArray × α) (L : List (ByteArray × α)) : getL k (p :: L) = if k = p.1 then some p.2 else getL k L := rfl
def plc (k : ByteArray) (L : List (ByteArray × α)) : Nat := (L.filter fun p => klt p.1 k).length
theorem Srt.split {A B : List (ByteArray × α)} {p : ByteArray × α} (h : Srt (A ++ p :: B)) : Srt A ∧ Srt B ∧ (∀ a ∈ A, klt a.1 p.1 = true) ∧ (∀ b ∈ B, klt p.1 b.1 = true) ∧ ∀ a ∈ A, ∀ b ∈ B, klt a.1 b.1 = true := by
  obtain ⟨h1, h2, h3⟩ := List.pairwise_append.1 h
  obtain ⟨h4, h5⟩ := List.pairwise_cons.1 h2
  exact ⟨h1, h5, fun a ha => h3 a ha p List.mem_cons_self, h4, fun a ha b hb => h3 a ha b (List.mem_cons_of_mem _ hb)⟩
theorem insL_left {k : ByteArray} {v : α} {p : ByteArray × α} {B : List (ByteArray × α)} (hk : klt k p.1 = true) : ∀ A : List (ByteArray × α), insL k v (A ++ p :: B) = insL k v A ++ p :: B
  | [] => by simp [insL, hk]
  | a :: A => by
    rw [List.cons_append]
    unfold insL
    split
    · rfl
    split
    · rfl
    · rw [insL_left hk A]; rfl
theorem insL_skip {k : ByteArray} {v : α} {B : List (ByteArray × α)} : ∀ A : List (ByteArray × α), (∀ a ∈ A, klt a.1 k = true) → insL k v (A ++ B) = A ++ insL k v B
  | [], _ => rfl
  | a :: A, h => by
    have ha := h a List.mem_cons_self
    rw [List.cons_append]
    conv => lhs; unfold insL
    rw [if_neg (by rw [klt_asym ha]; decide), if_neg (fun e => by rw [e, klt_irr] at ha; cases ha), insL_skip A (fun b hb => h b (List.mem_cons_of_mem _ hb))]
    rfl
theorem getL_none {k : ByteArray} : ∀ {L : List (ByteArray × α)}, (∀ a ∈ L, a.1 ≠ k) → getL k L = none
  | [], _ => rfl
  | a :: L, h => by
    unfold getL
    rw [if_neg (fun e => h a List.mem_cons_self e.symm), getL_none (fun b hb => h b (List.mem_cons_of_mem _ hb))]
theorem getL_append {k : ByteArray} : ∀ (A B : List (ByteArray × α)), getL k (A ++ B) = (getL k A).or (getL k B)
  | [], B => by simp [getL]
  | a :: A, B => by
    rw [List.cons_append, getL_cons, getL_cons]
    split
    · simp
    · exact getL_append A B
theorem delL_append (k : ByteArray) (A B : List (ByteArray × α)) : delL k (A ++ B) = delL k A ++ delL k B := by unfold delL; rw [List.filter_append]
theorem delL_id {k : ByteArray} {L : List (ByteArray × α)} (h : ∀ a ∈ L, a.1 ≠ k) : delL k L = L := List.filter_eq_self.2 (fun a ha => by simpa using h a ha)
theorem delL_sub {k : ByteArray} {L : List (ByteArray × α)} : (delL k L).Sublist L := List.filter_sublist
theorem Srt.del {L : List (ByteArray × α)} (h : Srt L) (k : ByteArray) : Srt (delL k L) := h.sublist delL_sub
theorem insL_mem {k : ByteArray} {v : α} {q : ByteArray × α} : ∀ {L : List (ByteArray × α)}, q ∈ insL k v L → q = (k, v) ∨ q ∈ L
  | [], h => by
    rcases List.mem_cons.1 h with h | h
    · exact .inl h
    · cases h
  | p :: L, h => by
    unfold insL at h
    split at h
    · rcases List.mem_cons.1 h with h | h
      · exact .inl h
      · exact .inr h
    split at h
    · rcases List.mem_cons.1 h with h | h
      · exact .inl h
      · exact .inr (List.mem_cons_of_mem _ h)
    · rcases List.mem_cons.1 h with h | h
      · exact .inr (h ▸ List.mem_cons_self)
      · rcases insL_mem h with h | h
        · exact .inl h
        · exact .inr (List.mem_cons_of_mem _ h)
theorem Srt.ins {k : ByteArray} {v : α} : ∀ {L : List (ByteArray × α)}, Srt L → Srt (insL k v L)
  | [], _ => List.pairwise_singleton _ _
  | p :: L, h => by
    obtain ⟨h1, h2⟩ := List.pairwise_cons.1 h
    unfold insL
    split
    · rename_i hk
      refine List.pairwise_cons.2 ⟨fun b hb => ?_, h⟩
      rcases List.mem_cons.1 hb with rfl | hb
      · exact hk
      · exact klt_trans hk (h1 b hb)
    split
    · rename_i hk
      refine List.pairwise_cons.2 ⟨fun b hb => ?_, h2⟩
      show klt k b.1 = true
      rw [hk]; exact h1 b hb
    · rename_i h3 h4
      refine List.pairwise_cons.2 ⟨fun b hb => ?_, Srt.ins h2⟩
      rcases insL_mem hb with rfl | hb
      · rcases klt_total h4 with e | e
        · exact absurd e h3
        · exact e
      · exact h1 b hb
theorem insL_len {k : ByteArray} {v : α} : ∀ {L : List (ByteArray × α)}, Srt L → (insL k v L).length = L.length + (if (getL k L).isSome = true then 0 else 1)
  | [], _ => rfl
  | p :: L, h => by
    obtain ⟨h1, h2⟩ := List.pairwise_cons.1 h
    unfold insL getL
    by_cases hk : klt k p.1 = true
    · have hne : k ≠ p.1 := fun e => by rw [e, klt_irr] at hk; cases hk
      rw [if_pos hk, if_neg hne, getL_none (fun a ha e => by
        have h3 := klt_trans hk (h1 a ha)
        rw [e, klt_irr] at h3; cases h3)]
      simp
    · rw [if_neg hk]
      by_cases he : k = p.1
      · rw [if_pos he, if_pos he]; simp
      · rw [if_neg he, if_neg he, List.length_cons, insL_len h2, List.length_cons]; omega
theorem getL_ins {k j : ByteArray} {v : α} : ∀ {L : List (ByteArray × α)}, Srt L → getL j (insL k v L) = if j = k then some v else getL j L
  | [], _ => rfl
  | p :: L, h => by
    obtain ⟨h1, h2⟩ := List.pairwise_cons.1 h
    unfold insL
    by_cases hk : klt k p.1 = true
    · rw [if_pos hk]; rfl
    · rw [if_neg hk]
      by_cases he : k = p.1
      · rw [if_pos he, getL_cons, getL_cons]
        by_cases hj : j = k
        · subst hj; simp
        · rw [if_neg hj, if_neg hj, if_neg (fun e => hj (by rw [e, he]))]
      · rw [if_neg he]
        rw [getL_cons, getL_ins h2]
        by_cases hj : j = k
        · rw [if_pos hj, if_neg (fun e => he (by rw [← hj, e])), if_pos hj]
        · rw [if_neg hj, if_neg hj, getL_cons]
theorem getL_mem {k : ByteArray} {v : α} : ∀ {L : List (ByteArray × α)}, getL k L = some v → (k, v) ∈ L
  | [], h => by cases h
  | p :: L, h => by
    unfold getL at h
    split at h
    · rename_i e
      cases h
      rw [e]; exact List.mem_cons_self
    · exact List.mem_cons_of_mem _ (getL_mem h)
theorem delL_len {k : ByteArray} : ∀ {L : List (ByteArray × α)}, Srt L → (delL k L).length + (if (getL k L).isSome = true then 1 else 0) = L.length
  | [], _ => rfl
  | p :: L, h => by
    obtain ⟨h1, h2⟩ := List.pairwise_cons.1 h
    unfold getL
    by_cases he : k = p.1
    · have hd : delL k (p :: L) = L := by
        unfold delL
        rw [List.filter_cons, if_neg (by simp [he])]
        exact delL_id (fun a ha e => by
          have := h1 a ha
          rw [e, he, klt_irr] at this; cases this)
      rw [hd, if_pos he]; simp
    · have hd : delL k (p :: L) = p :: delL k L := by
        unfold delL
        rw [List.filter_cons, if_pos (by simpa using fun e => he e.symm)]
      have := delL_len (k := k) h2
      rw [hd, if_neg he, List.length_cons, List.length_cons]; omega
theorem getL_del {k j : ByteArray} : ∀ {L : List (ByteArray × α)}, getL j (delL k L) = if j = k then none else getL j L
  | [] => by unfold delL; simp [getL]
  | p :: L => by
    have ih := getL_del (k := k) (j := j) (L := L)
    by_cases he : p.1 = k
    · have hd : delL k (p :: L) = delL k L := by unfold delL; rw [List.filter_cons, if_neg (by simp [he])]
      rw [hd, ih]
      by_cases hj : j = k
      · rw [if_pos hj, if_pos hj]
      · rw [if_neg hj, if_neg hj, getL_cons, if_neg (fun e => hj (by rw [e, he]))]
    · have hd : delL k (p :: L) = p :: delL k L := by unfold delL; rw [List.filter_cons, if_pos (by simpa using he)]
      rw [hd, getL_cons, ih]
      by_cases hj : j = k
      · rw [if_pos hj, if_neg (fun e => he (by rw [← e, hj])), if_pos hj]
      · rw [if_neg hj, if_neg hj, getL_cons]
end
namespace Tr
variable {α : Type}
theorem ino_put {k : ByteArray} {v : α} : ∀ {T : Tr α}, Srt T.ino → (put k v T).ino = insL k v T.ino
  | .nil, _ => rfl
  | .node k' v' l r, h => by
    obtain ⟨h1, h2, h3, h4, h5⟩ := Srt.split h
    unfold put
    by_cases hk : klt k k' = true
    · rw [if_pos hk, ino_bal, ino_put h1]
      show _ = insL k v (l.ino ++ (k', v') :: r.ino)
      rw [insL_left (p := (k', v')) hk]
    · rw [if_neg hk]
      have hsk : ∀ a ∈ l.ino, klt a.1 k = true := fun a ha => by
        by_cases he : k = k'
        · rw [he]; exact h3 a ha
        · rcases klt_total he with e | e
          · exact absurd e hk
          · exact klt_trans (h3 a ha) e
      have hi : insL k v (l.ino ++ (k', v') :: r.ino) = l.ino ++ insL k v ((k', v') :: r.ino) := insL_skip _ hsk
      by_cases he : k = k'
      · rw [if_pos he]
        show _ = insL k v (l.ino ++ (k', v') :: r.ino)
        rw [hi]
        show l.ino ++ (k, v) :: r.ino = _
        congr 1
        unfold insL
        rw [if_neg hk, if_pos he]
      · rw [if_neg he, ino_bal, ino_put h2]
        show _ = insL k v (l.ino ++ (k', v') :: r.ino)
        rw [hi]
        congr 1
        conv => rhs; unfold insL
        rw [if_neg hk, if_neg he]
theorem lst_some {k v} {l r : Tr α} : ∃ p, lst (.node k v l r) = some p := by
  rw [lst_ino]
  cases h : (Tr.node k v l r).ino.getLast? with
  | some p => exact ⟨p, rfl⟩
  | none => rw [List.getLast?_eq_none_iff] at h; unfold ino at h; simp at h
theorem fst_some {k v} {l r : Tr α} : ∃ p, fst (.node k v l r) = some p := by
  rw [fst_ino]
  cases h : (Tr.node k v l r).ino.head? with
  | some p => exact ⟨p, rfl⟩
  | none => rw [List.head?_eq_none_iff] at h; unfold ino at h; simp at h
theorem del_last {A : List (ByteArray × α)} {p : ByteArray × α} (h : Srt A) (hp : A.getLast? = some p) : delL p.1 A ++ [p] = A := by
  obtain ⟨B, rfl⟩ := List.getLast?_eq_some_iff.1 hp
  obtain ⟨_, _, h3, _⟩ := Srt.split h
  rw [delL_append, delL_id (fun a ha e => by have := h3 a ha; rw [e, klt_irr] at this; cases this)]
  unfold delL
  rw [List.filter_cons, if_neg (by simp)]
  simp
theorem del_first {A : List (ByteArray × α)} {p : ByteArray × α} (h : Srt A) (hp : A.head? = some p) : p :: delL p.1 A = A := by
  cases A with
  | nil => cases hp
  | cons a A =>
    cases hp
    obtain ⟨h1, _⟩ := List.pairwise_cons.1 h
    have : delL p.1 (p :: A) = A := by
      unfold delL
      rw [List.filter_cons, if_neg (by simp)]
      exact delL_id (fun a ha e => by have := h1 a ha; rw [e, klt_irr] at this; cases this)
    rw [this]
theorem ino_glueW {l r : Tr α} {dl dr : ByteArray → Tr α} (hl : Srt l.ino) (hr : Srt r.ino) (h1 : ∀ k, (dl k).ino = delL k l.ino) (h2 : ∀ k, (dr k).ino = delL k r.ino) : (glueW l r dl dr).ino = l.ino ++ r.ino := by
  unfold glueW
  cases l with
  | nil => simp [ino]
  | node lk lv ll lr =>
    cases r with
    | nil => simp [ino]
    | node rk rv rl rr =>
      simp only
      split
      · obtain ⟨p, hp⟩ := lst_some (k := lk) (v := lv) (l := ll) (r := lr)
        rw [hp]
        simp only
        rw [ino_bal, h1]
        have := del_last hl ((lst_ino _).symm.trans hp)
        conv => rhs; rw [← this]
        simp
      · obtain ⟨p, hp⟩ := fst_some (k := rk) (v := rv) (l := rl) (r := rr)
        rw [hp]
        simp only
        rw [ino_bal, h2]
        have := del_first hr ((fst_ino _).symm.trans hp)
        rw [this]
theorem ino_del : ∀ {T : Tr α}, Srt T.ino → ∀ k, (del T k).ino = delL k T.ino
  | .nil, _, k => rfl
  | .node k' v' l r, h, k => by
    obtain ⟨h1, h2, h3, h4, h5⟩ := Srt.split h
    show _ = delL k (l.ino ++ (k', v') :: r.ino)
    rw [delL_append]
    unfold del
    by_cases hk : klt k k' = true
    · have hne : k' ≠ k := fun e => by rw [e, klt_irr] at hk; cases hk
      rw [if_pos hk, ino_bal, ino_del h1]
      congr 1
      refine (delL_id (L := (k', v') :: r.ino) fun a ha e => ?_).symm
      rcases List.mem_cons.1 ha with rfl | ha
      · exact hne e
      · have := klt_trans hk (h4 a ha)
        rw [e, klt_irr] at this; cases this
    · rw [if_neg hk]
      have hl : delL k l.ino = l.ino := delL_id fun a ha e => by
        by_cases he : k = k'
        · have := h3 a ha; rw [e, he, klt_irr] at this; cases this
        · rcases klt_total he with e2 | e2
          · exact hk e2
          · have := klt_trans (h3 a ha) e2; rw [e, klt_irr] at this; cases this
      by_cases he : k = k'
      · rw [if_pos he, ino_glueW h1 h2 (fun k => ino_del h1 k) (fun k => ino_del h2 k), hl]
        congr 1
        have e2 : delL k ((k', v') :: r.ino) = delL k r.ino := by unfold delL; rw [List.filter_cons, if_neg (by simp [he])]
        rw [e2]
        exact (delL_id fun a ha e => by have := h4 a ha; rw [e, he, klt_irr] at this; cases this).symm
      · rw [if_neg he, ino_bal, ino_del h2, hl]
        congr 1
        have e2 : delL k ((k', v') :: r.ino) = (k', v') :: delL k r.ino := by unfold delL; rw [List.filter_cons, if_pos (by simpa using fun e => he e.symm)]
        rw [e2]
theorem get_ino {k : ByteArray} : ∀ {T : Tr α}, Srt T.ino → get k T = getL k T.ino
  | .nil, _ => rfl
  | .node k' v' l r, h => by
    obtain ⟨h1, h2, h3, h4, h5⟩ := Srt.split h
    show _ = getL k (l.ino ++ (k', v') :: r.ino)
    rw [getL_append]
    unfold get
    by_cases hk : klt k k' = true
    · have hne : k ≠ k' := fun e => by rw [e, klt_irr] at hk; cases hk
      rw [if_pos hk, get_ino h1]
      have : getL k ((k', v') :: r.ino) = none := getL_none fun a ha e => by
        rcases List.mem_cons.1 ha with rfl | ha
        · exact hne e.symm
        · have := klt_trans hk (h4 a ha); rw [e, klt_irr] at this; cases this
      rw [this]; simp
    · rw [if_neg hk]
      have hl : getL k l.ino = none := getL_none fun a ha e => by
        by_cases he : k = k'
        · have := h3 a ha; rw [e, he, klt_irr] at this; cases this
        · rcases klt_total he with e2 | e2
          · exact hk e2
          · have := klt_trans (h3 a ha) e2; rw [e, klt_irr] at this; cases this
      rw [hl]
      by_cases he : k = k'
      · rw [if_pos he, getL_cons, if_pos he]; simp
      · rw [if_neg he, get_ino h2]
        rw [getL_cons, if_neg he]; simp
theorem size_bal (l : Tr α) (k : ByteArray) (v : α) (r : Tr α) : (bal l k v r).size = l.size + 1 + r.size := by
  rw [size_ino, ino_bal, List.length_append, List.length_cons, ← size_ino, ← size_ino]; omega
theorem size_put (k : ByteArray) (v : α) : ∀ T : Tr α, (put k v T).size ≤ T.size + 1
  | .nil => by show 0 + 1 + 0 ≤ 0 + 1; omega
  | .node k' v' l r => by
    show _ ≤ l.size + 1 + r.size + 1
    unfold put
    split
    · rw [size_bal]; have := size_put k v l; omega
    split
    · show l.size + 1 + r.size ≤ _; omega
    · rw [size_bal]; have := size_put k v r; omega
theorem size_glueW {l r : Tr α} {dl dr : ByteArray → Tr α} (h1 : ∀ k, (dl k).size ≤ l.size) (h2 : ∀ k, (dr k).size ≤ r.size) : (glueW l r dl dr).size ≤ l.size + 1 + r.size := by
  unfold glueW
  cases l with
  | nil => show r.size ≤ 0 + 1 + r.size; omega
  | node lk lv ll lr =>
    cases r with
    | nil => show (Tr.node lk lv ll lr).size ≤ _; omega
    | node rk rv rl rr =>
      simp only
      split
      · obtain ⟨p, hp⟩ := lst_some (k := lk) (v := lv) (l := ll) (r := lr)
        rw [hp]
        simp only
        rw [size_bal]
        have := h1 p.1
        omega
      · obtain ⟨p, hp⟩ := fst_some (k := rk) (v := rv) (l := rl) (r := rr)
        rw [hp]
        simp only
        rw [size_bal]
        have := h2 p.1
        omega
theorem size_del : ∀ (T : Tr α) (k : ByteArray), (del T k).size ≤ T.size
  | .nil, k => Nat.le_refl _
  | .node k' v' l r, k => by
    show _ ≤ l.size + 1 + r.size
    unfold del
    split
    · rw [size_bal]; have := size_del l k; omega
    split
    · exact size_glueW (fun k => size_del l k) (fun k => size_del r k)
    · rw [size_bal]; have := size_del r k; omega
end Tr
/-- Does k begin with p? -/
def preB (p k : ByteArray) : Bool := decide (p.size ≤ k.size) && ((k.extract 0 p.size).toList == p.toList)
theorem preB_empty (k : ByteArray) : preB .empty k = true := by
  have e : (ByteArray.empty).size = 0 := rfl
  have e2 : k.extract 0 0 = .empty := by
    apply ByteArray.ext
    simp
  unfold preB
  rw [e, e2]
  simp
namespace Tr
variable {α : Type}
def und (p : ByteArray) : Tr α → List (ByteArray × α)
  | .nil => []
  | .node k v l r => if preB p k = true then und p l ++ (k, v) :: und p r else if klt k p = true then und p r else und p l
theorem und_empty : ∀ T : Tr α, und .empty T = T.ino
  | .nil => rfl
  | .node k v l r => by
    unfold und ino
    rw [if_pos (preB_empty k), und_empty l, und_empty r]
end Tr
end Go.Proofs.Ythcjbljkokflgaa
namespace Go.Proofs.Ythcjbljkokflgaa
open Go.RowKit
set_option linter.unusedVariables false
section
variable {P : Program} {ops : Array Oper} {Q : Exit → Act → World → Prop} {md : Region.Mode}
theorem uponIn_of {l n : Nat} {o : Oper} {a : Act} {K : Act → World → Prop} {r : Result Next} (h : o.upon P a K Q r) : o.uponIn (Fence.wide.inRound l) n P a K Q r := by
  cases r with
  | ok x w' =>
    cases x <;> first
      | exact h
      | exact (h : False).elim
      | exact ⟨fun e => (by cases e), CallsIn.inRound l (callsIn_wide.2 h)⟩
      | exact ⟨fun e => (by cases e), fun c cs _ => (by
          obtain ⟨v, w2, h1, h2⟩ := h c cs
          exact ⟨v, w2, h1, stepsIn_wide.2 h2⟩)⟩
  | halt x w' => cases x <;> first | exact h | exact (h : False).elim
theorem wpOpIn_of {l n i : Nat} {K : Act → World → Prop} {a : Act} {w : World} (hno : ∀ (j : Nat) (o : Oper) (c : Call), ops[j]? = some o → o.op ≠ .defer c) (hQ : ¬ LetsOut Q) (h : wpOp P ops Q i K a w) : wpOpIn (Fence.wide.inRound l) n P ops Q i K a w := by
  unfold wpOp at h
  unfold wpOpIn
  cases ho : ops[i]? with
  | none => simp only [ho] at h ⊢; exact h
  | some o =>
    simp only [ho] at h ⊢
    by_cases hw : Region.wanted o (yielded ops a.tmps) = true
    · simp only [hw, if_true] at h ⊢
      rcases h with h | ⟨_, h⟩
      · refine ⟨fun _ _ => trivial, ?_⟩
        rw [Oper.semAt_eq _ _ _ (fun c => hno i o c ho)]
        exact uponIn_of h
      · exact absurd h hQ
    · simp only [hw, Bool.false_eq_true, if_false] at h ⊢
      exact ⟨fun _ _ => trivial, h⟩
theorem wpAnyIn_of {l n : Nat} (hno : ∀ (j : Nat) (o : Oper) (c : Call), ops[j]? = some o → o.op ≠ .defer c) (hQ : ¬ LetsOut Q) : ∀ (fuel : Nat) (listed : Array Bool) (a : Act) (w : World), wpAny P md ops Q fuel listed a w → wpAnyIn (Fence.wide.inRound l) n P md ops Q fuel listed a w
  | 0, _, _, _, h => h
  | fuel + 1, _, _, _, h => ⟨h.1, fun i hi => wpOpIn_of hno hQ (wpOp_mono (fun a w => wpAnyIn_of hno hQ fuel _ a w) (h.2 i hi))⟩
def noDefer (ops : Array Oper) : Bool := ops.all fun o => match o.op with | .defer _ => false | _ => true
theorem noDefer_spec (h : noDefer ops = true) (j : Nat) (o : Oper) (c : Call) (ho : ops[j]? = some o) : o.op ≠ .defer c := fun e => by
  have := Array.all_eq_true_iff_forall_mem.1 h o (Array.mem_of_getElem? ho)
  simp [e] at this
theorem wpIn_region_plain {l n id : Nat} {a : Act} {w : World} (hm : P.follows .mixedOrders = true) (hno : noDefer ops = true) (hQ : ¬ LetsOut Q)
    (h : wpAny P .any ops Q ops.size (Array.replicate ops.size false) a w.drew) : (Code.region id ops true).wpIn (Fence.wide.inRound l) n P Q a w :=
  wpIn_region_any hm (wpAnyIn_of (noDefer_spec hno) hQ _ _ _ _ h)
/-- What holds of the world as long as none of certain operations has come: (those operations, what holds). -/
abbrev Conds := List (List Nat × (World → Prop))
def open' (E : List Nat) (listed : Array Bool) : Bool := E.all fun j => !listed.getD j false
def Hold : Conds → Array Bool → World → Prop
  | [], _, _ => True
  | c :: cs, listed, w => (open' c.1 listed = true → c.2 w) ∧ Hold cs listed w
theorem Hold.get {cs : Conds} {listed : Array Bool} {w : World} {c : List Nat × (World → Prop)} (h : Hold cs listed w) (hc : c ∈ cs) (ho : open' c.1 listed = true) : c.2 w := by
  induction cs with
  | nil => cases hc
  | cons d cs ih =>
    rcases List.mem_cons.1 hc with rfl | hc
    · exact h.1 ho
    · exact ih h.2 hc
theorem getD_ne {listed : Array Bool} {i j : Nat} (d : Bool) (h : i ≠ j) : (listed.setIfInBounds i true).getD j d = listed.getD j d := by
  simp [Array.getElem?_setIfInBounds_ne h]
theorem open_ne {E : List Nat} {listed : Array Bool} {i : Nat} (h : i ∉ E) : open' E (listed.setIfInBounds i true) = open' E listed := by
  unfold open'
  rw [Bool.eq_iff_iff, List.all_eq_true, List.all_eq_true]
  constructor <;> intro k j hj
  · have := k j hj; rwa [getD_ne _ (fun e => h (by rw [e]; exact hj))] at this
  · rw [getD_ne _ (fun e => h (by rw [e]; exact hj))]; exact k j hj
theorem Hold.unset {i : Nat} {w : World} : ∀ {cs : Conds} {listed : Array Bool}, (∀ c ∈ cs, i ∉ c.1) → Hold cs (listed.setIfInBounds i true) w → Hold cs listed w
  | [], _, _, h => h
  | c :: cs, listed, hn, h => ⟨fun ho => h.1 (by rw [open_ne (hn c List.mem_cons_self)]; exact ho), Hold.unset (fun d hd => hn d (List.mem_cons_of_mem _ hd)) h.2⟩
/-- Whatever order comes; behind each operation holds what is to hold. -/
def wpAnyE (P : Program) (md : Region.Mode) (ops : Array Oper) (Q : Exit → Act → World → Prop) (cs : Conds) : Nat → Array Bool → Act → World → Prop
  | 0, listed, a, w => Region.ready md ops listed = [] ∧ Q .normal a w
  | fuel + 1, listed, a, w =>
    (Region.ready md ops listed = [] → Q .normal a w) ∧
    ∀ i ∈ Region.ready md ops listed, wpOp P ops Q i (fun a' w' => Hold cs (listed.setIfInBounds i true) w' ∧ wpAnyE P md ops Q cs fuel (listed.setIfInBounds i true) a' w') a w
variable {cs : Conds}
theorem wpAny_ofE : ∀ (fuel : Nat) (listed : Array Bool) (a : Act) (w : World), wpAnyE P md ops Q cs fuel listed a w → wpAny P md ops Q fuel listed a w
  | 0, _, _, _, h => h
  | fuel + 1, _, _, _, h => ⟨h.1, fun i hi => wpOp_mono (fun a' w' h' => wpAny_ofE fuel _ a' w' h'.2) (h.2 i hi)⟩
/-- Every operation of E waits for i. -/
def waitsFor (md : Region.Mode) (ops : Array Oper) (E : List Nat) (i : Nat) : Bool :=
  E.all fun j => match ops[j]? with | some o => o.after.any fun e => Region.binds md e && e.on == i | none => true
theorem waits {listed : Array Bool} {j g : Nat} {o : Oper} (ho : ops[j]? = some o) (h : (o.after.any fun e => Region.binds md e && e.on == g) = true) (hg : listed.getD g false = false) : j ∉ Region.ready md ops listed := fun hj => by
  obtain ⟨_, o', ho', hall⟩ := mem_ready.1 hj
  rw [ho] at ho'
  cases ho'
  obtain ⟨e, he, h2⟩ := Array.any_eq_true'.1 h
  rw [Bool.and_eq_true, beq_iff_eq] at h2
  have := hall e he h2.1
  rw [h2.2, hg] at this
  cases this
theorem Hold.set {i : Nat} {w : World} : ∀ {cs : Conds} {listed : Array Bool}, (∀ c ∈ cs, i ∉ c.1) → Hold cs listed w → Hold cs (listed.setIfInBounds i true) w
  | [], _, _, h => h
  | c :: cs, listed, hn, h => ⟨fun ho => h.1 (by rw [open_ne (hn c List.mem_cons_self)] at ho; exact ho), Hold.set (fun d hd => hn d (List.mem_cons_of_mem _ hd)) h.2⟩
theorem wpAnyE_first {i : Nat} {oi : Oper} {v : Value} (hi : ops[i]? = some oi) (hsel : ∀ (j : Nat) (o : Oper) cs b, ops[j]? = some o → o.op ≠ .select cs b)
    (hQ : ∀ c a w, Q (.panic c) (a.put oi.dst v) w → Q (.panic c) a w) (E : List Nat) (S : World → Prop) (hES : (E, S) ∈ cs ∨ ∀ w, S w) (hG : waitsFor md ops E i = true) (hiE : i ∉ E) (hic : ∀ c ∈ cs, i ∉ c.1) :
    ∀ (fuel : Nat) (listed : Array Bool) (a : Act) (w : World), open' E listed = true → listed.getD i false = false →
      (∀ j oj, ops[j]? = some oj → j ≠ i → listed.getD j true = false → (∀ e ∈ oj.after, Region.binds md e = true → e.on ≠ i) → oi.apart ops oj = true) →
      i ∈ Region.ready md ops listed → YieldsIf P ops S oi v a → Hold cs listed w →
      wpAnyE P md ops Q cs fuel (listed.setIfInBounds i true) (a.put oi.dst v) w → wpAnyE P md ops Q cs (fuel + 1) listed a w := by
  have hSw : ∀ (listed : Array Bool) (w : World), open' E listed = true → Hold cs listed w → S w := fun listed w ho h => hES.elim (fun hm => h.get hm ho) (fun h => h w)
  intro fuel
  induction fuel with
  | zero =>
    intro listed a w hop _ _ hr hy hS H
    refine ⟨fun h => (by rw [h] at hr; cases hr), fun j hj => ?_⟩
    by_cases hji : j = i
    · subst hji; exact hy.wpOp hi (hSw _ _ hop hS) ⟨Hold.set hic hS, H⟩
    · have := ready_mono hj hji
      rw [H.1] at this
      cases this
  | succ fuel ih =>
    intro listed a w hop hli hfree hr hy hS H
    refine ⟨fun h => (by rw [h] at hr; cases hr), fun j hj => ?_⟩
    by_cases hji : j = i
    · subst hji; exact hy.wpOp hi (hSw _ _ hop hS) ⟨Hold.set hic hS, H⟩
    · have hjE : j ∉ E := fun hjE => by
        have h1 := List.all_eq_true.1 hG j hjE
        obtain ⟨_, oj, hoj, _⟩ := mem_ready.1 hj
        rw [hoj] at h1
        exact waits hoj h1 hli hj
      have h1 := H.2 j (ready_mono hj hji)
      obtain ⟨hjun, oj, hoj, hall⟩ := mem_ready.1 hj
      have hnot : ∀ e ∈ oj.after, Region.binds md e = true → e.on ≠ i := fun e he hb heq => by
        have h1 := hall e he hb
        rw [heq, hli] at h1
        cases h1
      have h2 := wpOp_putIf hoj (hfree j oj hoj hji hjun hnot) (fun cs b => hsel i oi cs b hi) (fun cs b => hsel j oj cs b hoj) hQ hy h1
      refine wpOp_mono (fun a' w' h3 => ?_) h2
      have hS' : Hold cs (listed.setIfInBounds j true) w' := Hold.unset hic (by rw [Array.setIfInBounds_comm _ _ hji]; exact h3.2.1)
      refine ⟨hS', ih (listed.setIfInBounds j true) a' w' (by rw [open_ne hjE]; exact hop) (by rw [getD_ne _ hji]; exact hli) (fun k ok hk hki hun hno => ?_) (ready_mono hr (Ne.symm hji)) h3.1 hS' ?_⟩
      · refine hfree k ok hk hki ?_ hno
        by_cases hjk : j = k
        · subst hjk; exact hjun
        · rw [getD_set_ne true hjk] at hun; exact hun
      · rw [Array.setIfInBounds_comm _ _ hji]
        exact h3.2.2
def freeOf (cs : Conds) (i : Nat) : Bool := cs.all fun c => !c.1.contains i
theorem freeOf_spec {i : Nat} (h : freeOf cs i = true) (c : List Nat × (World → Prop)) (hc : c ∈ cs) : i ∉ c.1 := fun e => by
  have := List.all_eq_true.1 h c hc
  simp [e] at this
/-- A load, which what comes behind it may write over. -/
theorem wpAnyE_load {i : Nat} (E : List Nat) (S : World → Prop) {oi : Oper} {v : Value} {fuel : Nat} {listed : Array Bool} {a : Act} {w : World} (hi : ops[i]? = some oi) (hs : Region.noSelect ops = true) (hES : (E, S) ∈ cs) (hG : waitsFor md ops E i = true) (hl : (open' E listed && !listed.getD i false && !E.contains i && freeOf cs i) = true)
    (hf : Region.free md ops listed i = true) (hr : (Region.ready md ops listed).contains i = true) (hQ : ∀ c a w, Q (.panic c) (a.put oi.dst v) w → Q (.panic c) a w) (hy : YieldsIf P ops S oi v a) (hS : Hold cs listed w)
    (h : Hold cs (listed.setIfInBounds i true) w → wpAnyE P md ops Q cs fuel (listed.setIfInBounds i true) (a.put oi.dst v) w) : wpAnyE P md ops Q cs (fuel + 1) listed a w := by
  simp only [Bool.and_eq_true] at hl
  exact wpAnyE_first hi (Region.noSelect_spec hs) hQ E S (.inl hES) hG (by simpa using hl.1.2) (freeOf_spec hl.2) fuel listed a w hl.1.1.1 (by simpa using hl.1.1.2) (Region.free_spec hi hf) (by simpa using hr) hy hS (h (Hold.set (freeOf_spec hl.2) hS))
/-- What needs no memory. -/
theorem wpAnyE_take {i : Nat} {oi : Oper} {v : Value} {fuel : Nat} {listed : Array Bool} {a : Act} {w : World} (hi : ops[i]? = some oi) (hs : Region.noSelect ops = true) (hl : (!listed.getD i false && freeOf cs i) = true)
    (hf : Region.free md ops listed i = true) (hr : (Region.ready md ops listed).contains i = true) (hQ : ∀ c a w, Q (.panic c) (a.put oi.dst v) w → Q (.panic c) a w) (hy : YieldsIf P ops (fun _ => True) oi v a) (hS : Hold cs listed w)
    (h : Hold cs (listed.setIfInBounds i true) w → wpAnyE P md ops Q cs fuel (listed.setIfInBounds i true) (a.put oi.dst v) w) : wpAnyE P md ops Q cs (fuel + 1) listed a w := by
  simp only [Bool.and_eq_true] at hl
  exact wpAnyE_first hi (Region.noSelect_spec hs) hQ [] (fun _ => True) (.inr fun _ => trivial) rfl (by simp) (freeOf_spec hl.2) fuel listed a w rfl (by simpa using hl.1) (Region.free_spec hi hf) (by simpa using hr) hy hS (h (Hold.set (freeOf_spec hl.2) hS))
theorem wpAnyE_done {listed : Array Bool} {a : Act} {w : World} (hr : Region.ready md ops listed = []) (h : Q .normal a w) : ∀ fuel, wpAnyE P md ops Q cs fuel listed a w
  | 0 => ⟨hr, h⟩
  | _ + 1 => ⟨fun _ => h, by rw [hr]; simp⟩
def AllE (P : Program) (md : Region.Mode) (ops : Array Oper) (Q : Exit → Act → World → Prop) (cs : Conds) (fuel : Nat) (listed : Array Bool) (a : Act) (w : World) (rs : List Nat) : Prop :=
  ∀ i ∈ rs, wpOp P ops Q i (fun a' w' => Hold cs (listed.setIfInBounds i true) w' ∧ wpAnyE P md ops Q cs fuel (listed.setIfInBounds i true) a' w') a w
theorem AllE.nil {fuel : Nat} {listed : Array Bool} {a : Act} {w : World} : AllE P md ops Q cs fuel listed a w [] := fun _ h => by cases h
theorem AllE.cons {fuel : Nat} {listed : Array Bool} {a : Act} {w : World} {i : Nat} {o : Oper} {rs : List Nat} (ho : ops[i]? = some o)
    (h : ∀ K' : Act → World → Prop, Shut (∀ a w, Hold cs (listed.setIfInBounds i true) w → (Hold cs (listed.setIfInBounds i true) w → wpAnyE P md ops Q cs fuel (listed.setIfInBounds i true) a w) → K' a w) → if Region.wanted o (yielded ops a.tmps) = true then Oper.wp P o a w K' Q else K' (a.put o.dst undef) w)
    (hs : AllE P md ops Q cs fuel listed a w rs) : AllE P md ops Q cs fuel listed a w (i :: rs) := fun j hj => by
  rcases List.mem_cons.1 hj with rfl | hj
  · exact wpOp_step ho (fun K' hK => h K' (fun a w hS hW => hK a w ⟨hS, hW hS⟩))
  · exact hs j hj
theorem wpAnyE_ready {rs : List Nat} {fuel : Nat} {listed : Array Bool} {a : Act} {w : World} (hr : Region.ready md ops listed = rs) (hne : rs ≠ [])
    (h : AllE P md ops Q cs fuel listed a w rs) : wpAnyE P md ops Q cs (fuel + 1) listed a w := ⟨fun h0 => absurd (hr ▸ h0) hne, hr ▸ h⟩
/-- The post, where a region is shown to come to its end. -/
def Only (Q : Exit → Act → World → Prop) : Exit → Act → World → Prop
  | .normal, a, w => Q .normal a w
  | _, _, _ => False
theorem only_normal {a : Act} {w : World} (h : Q .normal a w) : Only Q .normal a w := h
theorem only_imp : ∀ (e : Exit) (a : Act) (w : World), Only Q e a w → Q e a w := fun e a w h => by
  cases e <;> first | exact h | exact (h : False).elim
theorem only_lets : ¬ LetsOut (Only Q) := fun ⟨_, _, h⟩ => h
/-- In a round. -/
theorem wpIn_region_E {l n id : Nat} {a : Act} {w : World} (cs : Conds) (hm : P.follows .mixedOrders = true) (hno : noDefer ops = true) (hS : Hold cs (Array.replicate ops.size false) w.drew)
    (h : Hold cs (Array.replicate ops.size false) w.drew → wpAnyE P .any ops (Only Q) cs ops.size (Array.replicate ops.size false) a w.drew) : (Code.region id ops true).wpIn (Fence.wide.inRound l) n P Q a w :=
  wpIn_mono (wpIn_region_plain hm hno only_lets (wpAny_ofE _ _ _ _ (h hS))) only_imp
/-- Anywhere else. -/
theorem wp_region_E {id : Nat} {a : Act} {w : World} (cs : Conds) (hm : P.follows .mixedOrders = true) (hS : Hold cs (Array.replicate ops.size false) w.drew)
    (h : Hold cs (Array.replicate ops.size false) w.drew → wpAnyE P .any ops (Only Q) cs ops.size (Array.replicate ops.size false) a w.drew) : (Code.region id ops true).wp P Q a w :=
  Code.wp_mono only_imp (wp_region_any hm (wpAny_ofE _ _ _ _ (h hS)))
/-- A range over a function, in a plain walk; it may break off; both ways out go on alike. -/
theorem range_plain {α : Type} {g : Operand} {ps : Array Tmp} {assign body : Code} {a : Act} {w : World} {gf : Nat} {lb : Array Value} (hg : a.eval g = .func (.func gf) #[] lb) (eg : ∀ args w, (callFunc gf args).run P w = .ok (.enter gf args) w)
    {encs : α → Array Value} {Kp : World → World → Prop} {S Sp : List α → Prop} {N : Nat} (hseq : SeqStopsK Fence.wide 5 P gf lb encs Kp S Sp N w)
    (hKt : ∀ {A B C : World}, Kp A B → Kp B C → Kp A C) (hKb : ∀ (W : World) (l : Nat) (o o' : Obj), w.heap.size ≤ l → W.heap[l]? = some o → o.isCells = false → o.isWalk = false → Kp W (W.putObj l o')) (hps : ∀ x, (encs x).size = ps.size)
    (I : List α → World → Prop) (Ix : Code → List α → World → Prop) (hI : OwnFrom w.heap.size I) (hIx : ∀ c, OwnFrom w.heap.size (Ix c)) (h0 : I [] w)
    (id : Nat) (After : World → Prop) (hS : ∀ xs W, S xs → I xs W → After W) (hX : ∀ c pre W, Sp pre → Ix c pre W → c = .exit id ∧ After W) (hQ : ∀ a w, Q .normal a w → Q (.exit id) a w) (a₁ : α → Act)
    (hassign : ∀ (l : Nat) (x : α) (W : World) (K : Act → World → Prop), K (a₁ x) W →
      assign.wpIn (Fence.wide.inRound l) 4 P (Exit.then K (fun _ _ _ => False)) { tmps := (ps.zip (encs x)).foldl (fun t (p, v) => t.setIfInBounds p v) a.tmps, defers := [] } W)
    (hbody : ∀ (l : Nat) (pre : List α) (x : α) (W : World), I pre W → pre.length < N → body.wpIn (Fence.wide.inRound l) 4 P (ownPostG w.heap.size Kp I Ix (pre ++ [x]) W) (a₁ x) W)
    (hrest : ∀ (D : Nat) (W : World), w.heap.size ≤ D → After W → W.heap[D]? = some (.deferred (some [])) → Q .normal { a with defers := { target := .collected D, args := #[] } :: a.defers } W) :
    (Code.rangeFunc g ps assign body).wp P Q a w :=
  (wpIn_wide (n := 6)).1 (wpIn_rangeFunc_ownG rfl (by decide) hg trivial eg hseq hKt hKb (Below.refl _ _) hps I Ix hI hIx h0 a₁ hassign hbody
    (fun D xs W hD hs hi hk => hrest D W hD (hS xs W hs hi) hk) (fun D c pre W hD hs hi hk => by
      obtain ⟨rfl, h⟩ := hX c pre W hs hi
      exact wpIn_exit (hQ _ _ (hrest D W hD h hk))))
/-- A function that holds a range over a function, entered; it leaves with marks. -/
theorem calls_marks {f : FuncId} {fn : Func} {c : Code} {args : Array Value} {w : World} {R : Ending → World → Prop} (hf : P.funcs[f]? = some fn) (hb : fn.body = some c)
    (h : c.wp P (bodyPostM Fence.wide 6 P fn R) { tmps := args ++ Array.replicate (fn.ntmps - args.size) undef, defers := [] } w) : Calls P f args w R :=
  (callsIn_wide (n := 6)).1 (callsIn_of_wp_marks hf hb trivial (wpIn_wide.2 h) rfl)
end
end Go.Proofs.Ythcjbljkokflgaa
