/- The lock: who holds it, who waits; State, may, Queue, Holders. -/
import Derived.Test.YtkhlimlcnlalgaaKc
namespace Go.Proofs.Ytkhlimlcnlalgaa
open Go.RowKit Go.Maps
set_option linter.unusedVariables false
set_option linter.unusedSimpArgs false
set_option maxRecDepth 100000
/-- What x is among the holders. -/
def lkh (x : Int) : List Pq → Option Int
  | [] => none
  | p :: H => if p.1 = x then some p.2 else lkh x H
theorem lkh_mem {x v : Int} : ∀ {H : List Pq}, lkh x H = some v → (x, v) ∈ H
  | [], h => by cases h
  | p :: H, h => by
    unfold lkh at h
    split at h
    · rename_i e
      cases h
      subst e
      exact List.mem_cons_self
    · exact List.mem_cons_of_mem _ (lkh_mem h)
theorem lkh_none {x : Int} : ∀ {H : List Pq}, lkh x H = none → ∀ p ∈ H, p.1 ≠ x
  | [], _, p, hp => by cases hp
  | t :: H, h, p, hp => by
    unfold lkh at h
    split at h
    · cases h
    · rcases List.mem_cons.1 hp with rfl | hp
      · assumption
      · exact lkh_none h p hp
theorem lkh_some_of {x : Int} : ∀ {H : List Pq}, (∃ p ∈ H, p.1 = x) → (lkh x H).isSome = true
  | [], ⟨p, hp, _⟩ => by cases hp
  | t :: H, ⟨p, hp, hx⟩ => by
    unfold lkh
    split
    · rfl
    · rcases List.mem_cons.1 hp with rfl | hp
      · contradiction
      · exact lkh_some_of ⟨p, hp, hx⟩
theorem lkh_append (x : Int) (t : Pq) : ∀ H : List Pq, lkh x (H ++ [t]) = (lkh x H).or (if t.1 = x then some t.2 else none)
  | [] => by simp [lkh]
  | s :: H => by
    show (if s.1 = x then some s.2 else lkh x (H ++ [t])) = (if s.1 = x then some s.2 else lkh x H).or _
    by_cases e : s.1 = x
    · rw [if_pos e, if_pos e]; rfl
    · rw [if_neg e, if_neg e, lkh_append x t H]
theorem perm_keys {w : World} {b : Nat} {D : VD} (h : Vm w b D) {ss : List Int} (hn : ss.Nodup) (hm : ∀ x, x ∈ ss ↔ (vl D x).isSome = true) : ss.Perm (intKeys D) := by
  obtain ⟨es, clock, hb, F, hD, hT⟩ := h
  have hk := fit_keys F
  have ha := hT.tidy
  obtain ⟨es', e, hp⟩ := ha
  have hmem : ∀ p ∈ es', p ∈ es.toList.map (Go.WideElems.rg Try.prog 3 RV) := by
    intro p hp'
    rw [hD] at e
    have e' : (es.toList.map (Go.WideElems.rg Try.prog 3 RV)).foldr DataW.insert [] = es' := by injection e
    rw [← e'] at hp'
    exact (Go.WideShapes.sorted_perm _).mem_iff.1 hp'
  rw [e]
  refine perm_intKeys hp (fun p hp' => ?_) hn (fun x => ?_)
  · obtain ⟨key, hkey⟩ := hk p (hmem p hp')
    obtain ⟨x, _, h2, _⟩ := Maps.keyOf_i64 Try.underlying3 hkey
    exact ⟨x, h2⟩
  · rw [hm x, ← e, hT.has]
/-- Does one of them write? -/
def wrB (H : List Pq) : Bool := H.any fun p => p.2 == 3
def keysOf (H : List Pq) : List Int := H.map Prod.fst
structure Lb (w : World) (R b B n : Nat) (V : Value) (D : VD) (Q H : List Pq) : Prop where
  box : Blk w R 44 #[V, .map (some b), .bool (wrB H)]
  m : Vm w b D
  d : ∀ x, vl D x = (lkh x H).map (Value.int .i64)
  sz : Maps.size D = H.length
  q : Qr w B V Q
  ne : R ≠ b ∧ V.ownBlock ≠ some R ∧ V.ownBlock ≠ some b
  one : (keysOf H ++ keysOf Q).Nodup
  wfs : ∀ p ∈ H ++ Q, wf p.1 ∧ (p.2 = 2 ∨ p.2 = 3)
  alone : wrB H = true → H.length = 1
  len : H.length + Q.length ≤ n
  ge : B ≤ R ∧ B ≤ b
/-- The lock's own blocks. -/
def Mine (R b : Nat) (V : Value) (j : Nat) : Prop := j = R ∨ j = b ∨ V.ownBlock = some j
/-- What is not the lock's is as it was. -/
structure Kl (w w' : World) (R b : Nat) (V V' : Value) : Prop where
  os : w'.os = w.os
  tape : w'.tape = w.tape
  output : w'.output = w.output
  size : w.heap.size ≤ w'.heap.size
  block : ∀ j, j < w.heap.size → ¬ Mine R b V j → w'.heap[j]? = w.heap[j]?
  own : ∀ j, V'.ownBlock = some j → V.ownBlock = some j ∨ w.heap.size ≤ j
theorem Kl.refl (w : World) (R b : Nat) (V : Value) : Kl w w R b V V := ⟨rfl, rfl, rfl, Nat.le_refl _, fun _ _ _ => rfl, fun _ h => .inl h⟩
section
variable {w w' w2 : World} {R b B n : Nat} {V V' V2 : Value} {D D' : VD} {Q H : List Pq}
theorem Kl.of (h : Below w.heap.size w w') : Kl w w' R b V V := ⟨h.os, h.tape, h.output, h.size, fun j hj _ => h.block j hj, fun _ h => .inl h⟩
theorem Lb.lt (h : Lb w R b B n V D Q H) {j : Nat} (hj : Mine R b V j) : j < w.heap.size := by
  rcases hj with rfl | rfl | hj
  · exact h.box.lt
  · exact h.m.lt
  · exact (h.q.lt hj).2
theorem Lb.low (h : Lb w R b B n V D Q H) {j : Nat} (hj : Mine R b V j) : B ≤ j := by
  rcases hj with rfl | rfl | hj
  · exact h.ge.1
  · exact h.ge.2
  · exact (h.q.lt hj).1
theorem Kl.trans (h : Kl w w' R b V V') (k : Kl w' w2 R b V' V2) (hR : R < w.heap.size) (hb : b < w.heap.size) : Kl w w2 R b V V2 :=
  ⟨k.os.trans h.os, k.tape.trans h.tape, k.output.trans h.output, Nat.le_trans h.size k.size, fun j hj hm => (k.block j (Nat.lt_of_lt_of_le hj h.size) (fun hm' => hm (by
    rcases hm' with e | e | e
    · exact .inl e
    · exact .inr (.inl e)
    · rcases h.own j e with e | e
      · exact .inr (.inr e)
      · omega))).trans (h.block j hj hm), fun j hj => by
    rcases k.own j hj with e | e
    · exact h.own j e
    · exact .inr (Nat.le_trans h.size e)⟩
theorem Lb.keep (h : Lb w R b B n V D Q H) (hk : ∀ j, Mine R b V j → w'.heap[j]? = w.heap[j]?) : Lb w' R b B n V D Q H :=
  { h with
    box := (hk R (.inl rfl)).trans h.box
    m := h.m.off (hk b (.inr (.inl rfl)))
    q := h.q.keep (fun j hj => hk j (.inr (.inr hj))) }
theorem Lb.kept (h : Lb w R b B n V D Q H) (hb : Below w.heap.size w w') : Lb w' R b B n V D Q H := h.keep (fun j hj => hb.block j (h.lt hj))
theorem Lb.grown (h : Lb w R b B n V D Q H) {row : Option Nat} (hg : w.grownBy w' row) (hr : ∀ j, row = some j → ¬ Mine R b V j) : Lb w' R b B n V D Q H := h.keep (fun j hj => hg.block j (h.lt hj) (fun e => hr j e.symm hj))
def stL (Q H : List Pq) (x : Int) : Int := match lkh x H with
  | some v => v
  | none => if qhas x Q = true then 1 else 0
theorem new_any (w : World) : Calls Try.prog 8 #[] w fun e w' => ∃ R b V D, e = .returned (.pointer (some ⟨R, 0, none⟩)) ∧ Lb w' R b w.heap.size 0 V D [] [] ∧ Below w.heap.size w w' := by
  have hmm := @run_makeMap Try.prog
  go_enter Try.func8, Try.ntmps8
  go_wp2
  go_ret
  refine ⟨w.heap.size + 1, w.heap.size, .slice none 0 0, .map [], rfl, ⟨?_, ?_, fun x => rfl, rfl, .inl ⟨rfl, rfl⟩, ⟨by omega, (fun e => by cases e), (fun e => by cases e)⟩, List.nodup_nil, fun p hp => (by cases hp), fun e => (by cases e), Nat.le_refl _, by omega, Nat.le_refl _⟩, ((Below.refl _ _).alloc (Nat.le_refl _) _).alloc (by simp) _⟩
  · have := Blk.new (w.alloc (.map #[] 0)) 44 #[.slice none 0 0, .map (some w.heap.size), .bool false]
    have e : wrB [] = false := rfl
    rw [e]
    simpa using this
  · exact (Vm.made w).off (by rw [Below.heap_alloc _ _ _ (by simp)])
theorem state_any (h : Lb w R b B n V D Q H) (hn : n ≤ 1000) (x : Int) (hx : wf x) : Calls Try.prog 14 #[.pointer (some ⟨R, 0, none⟩), .int .i64 x] w fun e w' => e = .returned (.int .i64 (stL Q H x)) ∧ Below w.heap.size w w' := by
  have c1 := h.box.cell 1
  have hlk := (h.m.look Try.underlying41 (zero3 w) hx).1
  rw [h.d] at hlk
  unfold stL
  cases hl : lkh x H with
  | some v =>
    rw [hl] at hlk
    simp only [Option.map_some, Option.getD_some, Option.isSome_some] at hlk
    clear h hl
    go_enter Try.func14, Try.ntmps14
    go_wp2
    go_ret
    exact ⟨rfl, Below.refl _ _⟩
  | none =>
    rw [hl] at hlk
    simp only [Option.map_none, Option.getD_none, Option.isSome_none] at hlk
    have HP := Lib.hid (place_any h.box h.q (by have := h.len; omega) x)
    unfold qidx at HP
    obtain ⟨k, hk⟩ : ∃ k, qpl x Q = k := ⟨_, rfl⟩
    rw [hk] at HP
    obtain ⟨a, ha⟩ : ∃ a, qhas x Q = a := ⟨_, rfl⟩
    rw [ha] at HP ⊢
    clear h hl hk ha
    cases a with
    | true =>
      simp only [if_true] at HP ⊢
      go_enter Try.func14, Try.ntmps14
      go_wp2_with (first | (go_at_call 23; (with_reducible refine (HP.out).mono ?_); rintro _ w5 ⟨rfl, h1⟩; have HB := Lib.hid h1; clear h1) | fail)
      go_ret
      exact ⟨rfl, HB.out⟩
    | false =>
      simp only [Bool.false_eq_true, if_false] at HP ⊢
      go_enter Try.func14, Try.ntmps14
      go_wp2_with (first | (go_at_call 23; (with_reducible refine (HP.out).mono ?_); rintro _ w5 ⟨rfl, h1⟩; have HB := Lib.hid h1; clear h1) | fail)
      go_ret
      exact ⟨rfl, HB.out⟩
def mayB (H : List Pq) (will : Int) : Bool := if will = 3 then H.isEmpty else !(wrB H)
theorem may_any (h : Lb w R b B n V D Q H) (will : Int) : Calls Try.prog 28 #[.pointer (some ⟨R, 0, none⟩), .int .i64 will] w fun e w' => e = .returned (.bool (mayB H will)) ∧ w' = w := by
  have c1 := h.box.cell 1
  have c2 := h.box.cell 2
  have hln := h.m.len 3 Try.underlying41
  rw [h.sz] at hln
  by_cases hw : will = 3
  · subst hw
    have HM := Lib.hid (show mayB H 3 = ((H.length : Int) == 0) from by
      unfold mayB
      rw [if_pos rfl]
      cases H with
      | nil => rfl
      | cons p H => simp; omega)
    rw [HM.out]
    clear h
    go_enter Try.func28, Try.ntmps28
    go_wp2
    go_ret
    exact ⟨rfl, rfl⟩
  · have hwb : (will == 3) = false := by simpa using hw
    have HM := Lib.hid (show mayB H will = !(wrB H) from by unfold mayB; rw [if_neg hw])
    rw [HM.out]
    obtain ⟨u, hu⟩ : ∃ u, wrB H = u := ⟨_, rfl⟩
    rw [hu] at c2 ⊢
    clear h hw hu
    go_enter Try.func28, Try.ntmps28
    go_wp2
    go_ret
    exact ⟨rfl, rfl⟩
end
end Go.Proofs.Ytkhlimlcnlalgaa
