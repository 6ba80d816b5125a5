/- The reference's lock: maths of Ask and Leave; the box behind a push and behind two new rows. -/
import Derived.Test.YtkhlimlcnlalgaaPf
import Derived.Test.YtkhlimlcnlalgaaKs
namespace Go.Proofs.Ytkhlimlcnlalgaa
open Go.RowKit Go.Maps
open Go.Lib
set_option linter.unusedVariables false
set_option linter.unusedSimpArgs false
set_option maxRecDepth 100000
/-- What the two rows keep, without a world. -/
structure Iv (Q H : List Pq) (n : Nat) : Prop where
  one : (keysOf H ++ keysOf Q).Nodup
  wfs : ∀ p ∈ H ++ Q, wf p.1 ∧ (p.2 = 2 ∨ p.2 = 3)
  alone : wrB H = true → H.length = 1
  len : H.length + Q.length ≤ n
theorem Lb.iv {w : World} {R b B n : Nat} {V : Value} {D : VD} {Q H : List Pq} (h : Lb w R b B n V D Q H) : Iv Q H n := ⟨h.one, h.wfs, h.alone, h.len⟩
theorem mvH_of {p : Pq} : ∀ {Q H : List Pq}, p ∈ H → p ∈ mvH Q H
  | [], H, h => h
  | t :: Q, H, h => by
    unfold mvH
    split
    · exact mvH_of (List.mem_append_left _ h)
    · exact h
theorem mv_all {p : Pq} : ∀ {Q H : List Pq}, p ∈ Q → p ∈ mvQ Q H ∨ p ∈ mvH Q H
  | [], H, h => by cases h
  | t :: Q, H, h => by
    unfold mvQ mvH
    split
    · rcases List.mem_cons.1 h with h | h
      · subst h
        exact .inr (mvH_of (List.mem_append_right _ List.mem_cons_self))
      · exact mv_all h
    · exact .inl h
theorem ask_in {Q H : List Pq} {n : Nat} (hI : Iv Q H n) (x : Int) (wr : Bool) : decide (stL (mvQ (Q ++ [(x, willOf wr)]) H) (mvH (Q ++ [(x, willOf wr)]) H) x > 1) = (stL (mvQ (Q ++ [(x, willOf wr)]) H) (mvH (Q ++ [(x, willOf wr)]) H) x != 1) := by
  have hw : ∀ p ∈ mvH (Q ++ [(x, willOf wr)]) H, p.2 = 2 ∨ p.2 = 3 := by
    intro p hp
    rcases mvH_sub hp with h | h
    · rcases List.mem_append.1 h with h | h
      · exact (hI.wfs p (List.mem_append_right _ h)).2
      · rw [List.mem_singleton.1 h]
        unfold willOf
        cases wr <;> simp
    · exact (hI.wfs p (List.mem_append_left _ h)).2
  have hm : (x, willOf wr) ∈ mvQ (Q ++ [(x, willOf wr)]) H ∨ (x, willOf wr) ∈ mvH (Q ++ [(x, willOf wr)]) H := mv_all (List.mem_append_right _ List.mem_cons_self)
  unfold stL
  cases hl : lkh x (mvH (Q ++ [(x, willOf wr)]) H) with
  | some v =>
    rcases hw _ (lkh_mem hl) with e | e
    · simp only at e ⊢; rw [e]; rfl
    · simp only at e ⊢; rw [e]; rfl
  | none =>
    have hq : qhas x (mvQ (Q ++ [(x, willOf wr)]) H) = true := by
      rcases hm with h | h
      · exact qhas_iff.2 (List.mem_map.2 ⟨_, h, rfl⟩)
      · exact absurd rfl (lkh_none hl _ h)
    simp only
    rw [if_pos hq]
    decide
theorem delH_id {Q : List Pq} {x : Int} (h : x ∉ keysOf Q) : delH Q x = Q := List.filter_eq_self.2 (fun p hp => by
  have : p.1 ≠ x := fun e => h (List.mem_map.2 ⟨p, hp, e⟩)
  simpa using this)
theorem leaveQ_del {x : Int} : ∀ {Q : List Pq}, (keysOf Q).Nodup → qhas x Q = true → leaveQ Q x = delH Q x
  | [], _, h => by cases h
  | p :: Q, hn, h => by
    have hn : p.1 ∉ keysOf Q ∧ (keysOf Q).Nodup := List.nodup_cons.1 hn
    unfold leaveQ qpl
    by_cases e : p.1 = x
    · rw [if_pos e]
      show Q = delH (p :: Q) x
      unfold delH
      rw [List.filter_cons, if_neg (by simp [e])]
      exact (delH_id (by rw [← e]; exact hn.1)).symm
    · rw [if_neg e]
      have h2 : qhas x Q = true := by
        unfold qhas at h ⊢
        rw [List.any_cons] at h
        rw [beq_false_of_ne e] at h
        simpa using h
      show p :: Q.eraseIdx (qpl x Q) = delH (p :: Q) x
      have ih := leaveQ_del hn.2 h2
      unfold leaveQ at ih
      rw [ih]
      unfold delH
      rw [List.filter_cons, if_pos (by simpa using e)]
theorem pre_del {Q H : List Pq} {n : Nat} {x : Int} (hI : Iv Q H n) (hs : stL Q H x ≠ 0) : preQ Q H x = delH Q x ∧ preH H x = delH H x := by
  obtain ⟨n1, n2, n3⟩ := List.nodup_append.1 hI.one
  unfold preQ preH
  by_cases hl : (lkh x H).isSome = true
  · rw [if_pos hl, if_pos hl]
    refine ⟨(delH_id fun hq => ?_).symm, rfl⟩
    exact n3 x (lkh_iff.1 hl) x hq rfl
  · have hl0 : x ∉ keysOf H := fun e => hl (lkh_iff.2 e)
    rw [if_neg hl, if_neg hl]
    have hq : qhas x Q = true := by
      cases e : qhas x Q with
      | true => rfl
      | false =>
        exfalso
        apply hs
        unfold stL
        have : lkh x H = none := by
          cases e2 : lkh x H with
          | none => rfl
          | some v => rw [e2] at hl; exact absurd rfl hl
        rw [this, e]
        rfl
    rw [if_pos hq]
    exact ⟨leaveQ_del n2 hq, (delH_id hl0).symm⟩
theorem del_alone {H : List Pq} {x : Int} (h : wrB H = true → H.length = 1) : wrB (delH H x) = true → (delH H x).length = 1 := by
  intro h1
  have h2 : wrB H = true := by
    unfold wrB at h1 ⊢
    rw [List.any_eq_true] at h1 ⊢
    obtain ⟨p, hp, e⟩ := h1
    exact ⟨p, (List.mem_filter.1 hp).1, e⟩
  have h3 := h h2
  have h4 : (delH H x).length ≤ H.length := List.length_filter_le _ _
  have h5 : (delH H x).length ≠ 0 := by
    intro e
    rw [List.length_eq_zero_iff.1 e] at h1
    cases h1
  omega
theorem up2 {w : World} {B C : Nat} {V : Value} {n : Nat} {vs : List Value} (h : w.ownsRow B 48 2 V n vs) (hC : C ≤ B) : w.ownsRow C 48 2 V n vs := by
  obtain ⟨h0, h3 | ⟨b, cap, cur, e1, e2, e3⟩⟩ := h
  · exact ⟨h0, .inl h3⟩
  · exact ⟨h0, .inr ⟨b, cap, cur, e1, Nat.le_trans hC e2, e3⟩⟩
section
variable {w wr wp w1 w2 w3 : World} {g C n1 k1 n m : Nat} {A1 A2 : Option Addr} {c1 c2 : Nat} {V1 V2 Vi Vq : Value} {Q H H' Q' : List Pq}
theorem q_done (hl : Rk wr g C V1 V2 Q H) (hk : KB wr.heap.size wr wp) (hg : wp.grownBy w3 V2.ownBlock) (hw : w3.ownsRow C 48 2 (.slice (some ⟨n1, 0, none⟩) n k1) n (rcells Q')) (hn : Q'.length = n) (ho : V2.ownBlock = some n1 ∨ wp.heap.size ≤ n1) :
    Rk (w3.setCell ⟨g, 1, none⟩ (.slice (some ⟨n1, 0, none⟩) n k1)) g C V1 (.slice (some ⟨n1, 0, none⟩) n k1) Q' H ∧ Kr wr (w3.setCell ⟨g, 1, none⟩ (.slice (some ⟨n1, 0, none⟩) n k1)) g V1 V2 V1 (.slice (some ⟨n1, 0, none⟩) n k1) := by
  subst hn
  have hgl := hl.box.lt
  have hps := hk.2.size
  have hset : ∀ j, j ≠ g → (w3.setCell ⟨g, 1, none⟩ (.slice (some ⟨n1, 0, none⟩) Q'.length k1)).heap[j]? = w3.heap[j]? := fun j hj => Below.heap_setCell w3 ⟨g, 1, none⟩ _ j hj
  have hold : ∀ j, j < wr.heap.size → V2.ownBlock ≠ some j → w3.heap[j]? = wr.heap[j]? := fun j hj h1 => (hg.block j (by omega) (fun e => h1 e.symm)).trans (hk.2.block j hj)
  have hbox : Blk w3 g 29 #[V1, V2] := (hold g hgl hl.nq).trans hl.box
  have hn1 : ∀ j, (Value.slice (some ⟨n1, 0, none⟩) Q'.length k1).ownBlock = some j → V2.ownBlock = some j ∨ wr.heap.size ≤ j := by
    intro j hj
    obtain rfl : n1 = j := Option.some.inj hj
    rcases ho with e | e
    · exact .inl e
    · exact .inr (by omega)
  have hng : n1 ≠ g := by
    intro e
    rcases hn1 n1 rfl with h | h
    · exact hl.nq (by rw [h, e])
    · omega
  refine ⟨hl.queue_ (hbox.set_ 1 _) (row2_keep hw (fun j hj => hset j (by obtain rfl : n1 = j := Option.some.inj hj; exact hng))) (fun j hj => ?_) hn1, ⟨?_, ?_, ?_, ?_, fun j hj h1 h2 h3 => (hset j h1).trans (hold j hj h3), fun j hj => ?_⟩⟩
  · have hjl := (hl.i.lt j hj).2
    exact (hset j (fun e => hl.ni (by rw [hj, e]))).trans (hold j hjl (fun e => hl.ap j hj e))
  · exact hg.os.trans hk.2.os
  · exact hg.tape.trans hk.2.tape
  · exact hg.output.trans hk.2.output
  · have := hg.size; simp [World.setCell]; omega
  · rcases hj with hj | hj
    · exact .inl (.inl hj)
    · rcases hn1 j hj with h | h
      · exact .inl (.inr h)
      · exact .inr h
theorem lv_done (h : Rk w g C Vi Vq Q H) (hC : C ≤ w.heap.size) (b1 : Below w.heap.size w w1) (u1 : w1.ownsRow w.heap.size 48 2 (.slice A1 n c1) n (rcells H')) (hn : H'.length = n) (b2 : Below w1.heap.size w1 w2) (u2 : w2.ownsRow w1.heap.size 48 2 (.slice A2 m c2) m (rcells Q')) (hm : Q'.length = m) :
    Rk ((w2.setCell ⟨g, 0, none⟩ (.slice A1 n c1)).setCell ⟨g, 1, none⟩ (.slice A2 m c2)) g C (.slice A1 n c1) (.slice A2 m c2) Q' H' ∧ Kr w ((w2.setCell ⟨g, 0, none⟩ (.slice A1 n c1)).setCell ⟨g, 1, none⟩ (.slice A2 m c2)) g Vi Vq (.slice A1 n c1) (.slice A2 m c2) := by
  subst hn hm
  have hgl := h.box.lt
  have hs1 := b1.size
  have hs2 := b2.size
  have hb : Below w.heap.size w w2 := b1.trans (b2.mono hs1)
  have hset : ∀ j, j ≠ g → ((w2.setCell ⟨g, 0, none⟩ (.slice A1 H'.length c1)).setCell ⟨g, 1, none⟩ (.slice A2 Q'.length c2)).heap[j]? = w2.heap[j]? := fun j hj => (Below.heap_setCell _ ⟨g, 1, none⟩ _ j hj).trans (Below.heap_setCell w2 ⟨g, 0, none⟩ _ j hj)
  have hbox : Blk w2 g 29 #[Vi, Vq] := (hb.block g hgl).trans h.box
  have l1 : ∀ j, (Value.slice A1 H'.length c1).ownBlock = some j → w.heap.size ≤ j ∧ j < w1.heap.size := fun j hj => u1.lt j hj
  have l2 : ∀ j, (Value.slice A2 Q'.length c2).ownBlock = some j → w1.heap.size ≤ j := fun j hj => (u2.lt j hj).1
  refine ⟨⟨(hbox.set_ 0 _).set_ 1 _, ?_, ?_, fun e => ?_, fun e => ?_, fun j e e2 => ?_, h.ge⟩, ⟨?_, ?_, ?_, ?_, fun j hj h1 h2 h3 => ?_, fun j hj => ?_⟩⟩
  · have := row2_keep (w2 := ((w2.setCell ⟨g, 0, none⟩ (.slice A1 H'.length c1)).setCell ⟨g, 1, none⟩ (.slice A2 Q'.length c2))) u1 (fun j hj => (hset j (by have := (l1 j hj).1; omega)).trans (b2.block j (l1 j hj).2))
    exact up2 this hC
  · have := row2_keep (w2 := ((w2.setCell ⟨g, 0, none⟩ (.slice A1 H'.length c1)).setCell ⟨g, 1, none⟩ (.slice A2 Q'.length c2))) u2 (fun j hj => hset j (by have := l2 j hj; omega))
    exact up2 this (by omega)
  · have := (l1 g e).1; omega
  · have := l2 g e; omega
  · have := (l1 j e).2; have := l2 j e2; omega
  · exact hb.os
  · exact hb.tape
  · exact hb.output
  · simp [World.setCell]; omega
  · exact (hset j h1).trans (hb.block j hj)
  · rcases hj with hj | hj
    · exact .inr (l1 j hj).1
    · exact .inr (by have := l2 j hj; omega)
end
end Go.Proofs.Ytkhlimlcnlalgaa
