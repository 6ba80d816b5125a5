/- The lock and the reference's lock side by side. -/
import Derived.Test.YtkhlimlcnlalgaaPi
namespace Go.Proofs.Ytkhlimlcnlalgaa
open Go.RowKit Go.Maps
open Go.Lib
set_option linter.unusedVariables false
set_option linter.unusedSimpArgs false
set_option maxRecDepth 100000
structure P2 (w0 w : World) (R b n g : Nat) (V : Value) (D : VD) (Vi Vq : Value) (Q H Q' H' : List Pq) : Prop where
  lb : Lb w R b w0.heap.size n V D Q H
  bel : Below w0.heap.size w0 w
  rk : Rk w g w0.heap.size Vi Vq Q' H'
  ap : ∀ j, Mine R b V j → j ≠ g ∧ Vi.ownBlock ≠ some j ∧ Vq.ownBlock ≠ some j
section
variable {w0 w w' w1 w2 : World} {R b n g : Nat} {V V' : Value} {D D' : VD} {Vi Vq Vi' Vq' U : Value} {Q H Q' H' Q2 H2 : List Pq} {l : List Int}
theorem P2.kept (h : P2 w0 w R b n g V D Vi Vq Q H Q' H') (hb : Below w.heap.size w w') : P2 w0 w' R b n g V D Vi Vq Q H Q' H' :=
  ⟨h.lb.kept hb, h.bel.trans (hb.mono h.bel.size), h.rk.kept hb, h.ap⟩
theorem P2.mono (h : P2 w0 w R b n g V D Vi Vq Q H Q' H') {m : Nat} (hm : n ≤ m) : P2 w0 w R b m g V D Vi Vq Q H Q' H' := { h with lb := h.lb.mono hm }
theorem P2.code (h : P2 w0 w R b n g V D Vi Vq Q H Q' H') {m : Nat} (hl : Lb w' R b w0.heap.size m V' D' Q2 H2) (hk : Kl w w' R b V V') : P2 w0 w' R b m g V' D' Vi Vq Q2 H2 Q' H' := by
  have hno : ∀ j, j = g ∨ Vi.ownBlock = some j ∨ Vq.ownBlock = some j → ¬ Mine R b V j := fun j hj hm => by
    obtain ⟨a1, a2, a3⟩ := h.ap j hm
    rcases hj with e | e | e
    · exact a1 e
    · exact a2 e
    · exact a3 e
  have hlt : ∀ j, j = g ∨ Vi.ownBlock = some j ∨ Vq.ownBlock = some j → j < w.heap.size := fun j hj => by
    rcases hj with e | e | e
    · rw [e]; exact h.rk.box.lt
    · exact (h.rk.i.lt j e).2
    · exact (h.rk.q.lt j e).2
  have hb : ∀ j, j = g ∨ Vi.ownBlock = some j ∨ Vq.ownBlock = some j → w'.heap[j]? = w.heap[j]? := fun j hj => hk.block j (hlt j hj) (hno j hj)
  refine ⟨hl, h.bel.trans (hk.below h.lb h.bel.size), ⟨(hb g (.inl rfl)).trans h.rk.box, row2_keep h.rk.i (fun j e => hb j (.inr (.inl e))), row2_keep h.rk.q (fun j e => hb j (.inr (.inr e))), h.rk.ni, h.rk.nq, h.rk.ap, h.rk.ge⟩, fun j hm => ?_⟩
  have hj : ¬ (j = g ∨ Vi.ownBlock = some j ∨ Vq.ownBlock = some j) := fun e => by
    rcases hm with e2 | e2 | e2
    · exact hno j e (.inl e2)
    · exact hno j e (.inr (.inl e2))
    · rcases hk.own j e2 with e3 | e3
      · exact hno j e (.inr (.inr e3))
      · have := hlt j e; omega
  exact ⟨fun e => hj (.inl e), fun e => hj (.inr (.inl e)), fun e => hj (.inr (.inr e))⟩
theorem P2.ref_ (h : P2 w0 w R b n g V D Vi Vq Q H Q' H') (hr : Rk w' g w0.heap.size Vi' Vq' Q2 H2) (hk : Kr w w' g Vi Vq Vi' Vq') : P2 w0 w' R b n g V D Vi' Vq' Q H Q2 H2 := by
  refine ⟨h.lb.keep (fun j hm => ?_), h.bel.trans (hk.below h.rk h.bel.size), hr, fun j hm => ?_⟩
  · obtain ⟨a1, a2, a3⟩ := h.ap j hm
    exact hk.block j (h.lb.lt hm) a1 a2 a3
  · obtain ⟨a1, a2, a3⟩ := h.ap j hm
    have hlt := h.lb.lt hm
    have : ¬ (Vi'.ownBlock = some j ∨ Vq'.ownBlock = some j) := fun e => by
      rcases hk.own j e with (e | e) | e
      · exact a2 e
      · exact a3 e
      · omega
    exact ⟨a1, fun e => this (.inl e), fun e => this (.inr e)⟩
theorem p_ask (h : P2 w0 w R b n g V D Vi Vq Q H Q' H') (hn : n < 1000) (x : Int) (hx : wf x) (wr : Bool) (r : Bool) (hr : askR Q H x wr = r) (Q2 H2 : List Pq) (h1 : askQ Q H x wr = Q2) (h2 : askH Q H x wr = H2) : Calls Try.prog 9 #[.pointer (some ⟨R, 0, none⟩), .int .i64 x, .bool wr] w fun e w' => e = .returned (.bool r) ∧ ∃ V' D', P2 w0 w' R b (n + 1) g V' D' Vi Vq Q2 H2 Q' H' := by
  subst hr h1 h2
  refine (ask_any h.lb hn x hx wr).mono ?_
  rintro _ w' ⟨V', D', rfl, h3, h4⟩
  exact ⟨rfl, V', D', h.code h3 h4⟩
theorem p_rask {m : Nat} (h : P2 w0 w R b n g V D Vi Vq Q H Q' H') (hI : Iv Q' H' m) (hm : m < 1000) (x : Int) (wr : Bool) (r : Bool) (hr : askR Q' H' x wr = r) (Q2 H2 : List Pq) (h1 : askQ Q' H' x wr = Q2) (h2 : askH Q' H' x wr = H2) : Calls Try.prog 10 #[.pointer (some ⟨g, 0, none⟩), .int .i64 x, .bool wr] w fun e w' => e = .returned (.bool r) ∧ ∃ Vi' Vq', P2 w0 w' R b n g V D Vi' Vq' Q H Q2 H2 := by
  subst hr h1 h2
  refine (rask_any h.rk h.bel.size hI hm x wr).mono ?_
  rintro _ w' ⟨Vi', Vq', rfl, h3, h4⟩
  exact ⟨rfl, Vi', Vq', h.ref_ h3 h4⟩
theorem p_leave (h : P2 w0 w R b n g V D Vi Vq Q H Q' H') (hn : n ≤ 1000) (x : Int) (hx : wf x) (l : List Int) (hl : lvC Q H x = l) (Q2 H2 : List Pq) (h1 : lvQ Q H x = Q2) (h2 : lvH Q H x = H2) : Calls Try.prog 12 #[.pointer (some ⟨R, 0, none⟩), .int .i64 x] w fun e w' => ∃ U V' D', e = .returned U ∧ P2 w0 w' R b n g V' D' Vi Vq Q2 H2 Q' H' ∧ w'.ownsRow w.heap.size 3 1 U l.length (ivs l) := by
  subst hl h1 h2
  refine (leave_any h.lb hn x hx).mono ?_
  rintro _ w' ⟨U, V', D', rfl, h3, h4, h5⟩
  exact ⟨U, V', D', rfl, h.code h3 h5, h4⟩
/-- What the code's call made lies beyond the reference's: it is there when the reference's has come back. -/
theorem p_rleave {m : Nat} (h0 : Rk w1 g w0.heap.size Vi Vq Q' H') (h : P2 w0 w R b n g V D Vi Vq Q H Q' H') (hI : Iv Q' H' m) (hm : m ≤ 1000) (hu : w.ownsRow w1.heap.size 3 1 U l.length (ivs l)) (x : Int) (k : List Int) (hk : lvC Q' H' x = k) (Q2 H2 : List Pq) (h1 : lvQ Q' H' x = Q2) (h2 : lvH Q' H' x = H2) : Calls Try.prog 13 #[.pointer (some ⟨g, 0, none⟩), .int .i64 x] w fun e w' => ∃ U' Vi' Vq', e = .returned U' ∧ P2 w0 w' R b n g V D Vi' Vq' Q H Q2 H2 ∧ w'.ownsRow w.heap.size 3 1 U' k.length (ivs k) ∧ w'.ownsRow w1.heap.size 3 1 U l.length (ivs l) := by
  subst hk h1 h2
  refine (rleave_any h.rk h.bel.size hI hm x).mono ?_
  rintro _ w' ⟨U', Vi', Vq', rfl, h3, h4, h5⟩
  refine ⟨U', Vi', Vq', rfl, h.ref_ h3 h5, h4, row_keep hu (fun j hj => h5.block j (hu.lt j hj).2 (fun e => ?_) (fun e => ?_) (fun e => ?_))⟩
  · have := (hu.lt j hj).1; have := h0.box.lt; omega
  · have := (hu.lt j hj).1; have := (h0.i.lt j e).2; omega
  · have := (hu.lt j hj).1; have := (h0.q.lt j e).2; omega
theorem p_state (h : P2 w0 w R b n g V D Vi Vq Q H Q' H') (hn : n ≤ 1000) (x : Int) (hx : wf x) (s : Int) (hs : stL Q H x = s) : Calls Try.prog 14 #[.pointer (some ⟨R, 0, none⟩), .int .i64 x] w fun e w' => e = .returned (.int .i64 s) ∧ P2 w0 w' R b n g V D Vi Vq Q H Q' H' := by
  subst hs
  refine (state_any h.lb hn x hx).mono ?_
  rintro _ w' ⟨rfl, h1⟩
  exact ⟨rfl, h.kept h1⟩
theorem p_rstate (h : P2 w0 w R b n g V D Vi Vq Q H Q H) (hn : n ≤ 1000) (x : Int) (s : Int) (hs : stL Q H x = s) : Calls Try.prog 15 #[.pointer (some ⟨g, 0, none⟩), .int .i64 x] w fun e w' => e = .returned (.int .i64 s) ∧ P2 w0 w' R b n g V D Vi Vq Q H Q H := by
  subst hs
  have hl := h.lb.len
  refine (rstate_any h.rk (by omega) h.lb.iv.h2 x).mono ?_
  rintro _ w' ⟨rfl, rfl⟩
  exact ⟨rfl, h⟩
theorem p_hold (h : P2 w0 w R b n g V D Vi Vq Q H Q' H') (hn : n ≤ 1000) (l : List Int) (hl : srtK H = l) : Calls Try.prog 16 #[.pointer (some ⟨R, 0, none⟩)] w fun e w' => ∃ U, e = .returned U ∧ w'.ownsRow w.heap.size 3 1 U l.length (ivs l) ∧ P2 w0 w' R b n g V D Vi Vq Q H Q' H' := by
  subst hl
  refine (hold_any h.lb hn).mono ?_
  rintro _ w' ⟨U, rfl, h1, h2⟩
  exact ⟨U, rfl, h1, h.kept h2⟩
theorem p_rhold {B : Nat} (h : P2 w0 w R b n g V D Vi Vq Q H Q H) (hn : n ≤ 1000) (hu : w.ownsRow B 3 1 U l.length (ivs l)) (k : List Int) (hk : srtK H = k) : Calls Try.prog 17 #[.pointer (some ⟨g, 0, none⟩)] w fun e w' => ∃ U', e = .returned U' ∧ w'.ownsRow w.heap.size 3 1 U' k.length (ivs k) ∧ w'.ownsRow B 3 1 U l.length (ivs l) ∧ P2 w0 w' R b n g V D Vi Vq Q H Q H := by
  subst hk
  have hl := h.lb.len
  rw [← rHd_srt (List.nodup_append.1 h.lb.one).1]
  refine (rhold_any h.rk (by omega)).mono ?_
  rintro _ w' ⟨U', rfl, h1, h2⟩
  exact ⟨U', rfl, h1, row_keep hu (fun j hj => h2.block j (hu.lt j hj).2), h.kept h2⟩
theorem p_queue (h : P2 w0 w R b n g V D Vi Vq Q H Q' H') (hn : n ≤ 1000) (l : List Int) (hl : keysOf Q = l) : Calls Try.prog 18 #[.pointer (some ⟨R, 0, none⟩)] w fun e w' => ∃ U, e = .returned U ∧ w'.ownsRow w.heap.size 3 1 U l.length (ivs l) ∧ P2 w0 w' R b n g V D Vi Vq Q H Q' H' := by
  subst hl
  refine (queue_any h.lb hn).mono ?_
  rintro _ w' ⟨U, rfl, h1, h2⟩
  exact ⟨U, rfl, h1, h.kept h2⟩
theorem p_rqueue {B : Nat} (h : P2 w0 w R b n g V D Vi Vq Q H Q H) (hn : n ≤ 1000) (hu : w.ownsRow B 3 1 U l.length (ivs l)) (k : List Int) (hk : keysOf Q = k) : Calls Try.prog 19 #[.pointer (some ⟨g, 0, none⟩)] w fun e w' => ∃ U', e = .returned U' ∧ w'.ownsRow w.heap.size 3 1 U' k.length (ivs k) ∧ w'.ownsRow B 3 1 U l.length (ivs l) ∧ P2 w0 w' R b n g V D Vi Vq Q H Q H := by
  subst hk
  have hl := h.lb.len
  refine (rqueue_any h.rk (by omega)).mono ?_
  rintro _ w' ⟨U', rfl, h1, h2⟩
  exact ⟨U', rfl, h1, row_keep hu (fun j hj => h2.block j (hu.lt j hj).2), h.kept h2⟩
theorem p_ints {B C : Nat} (h : P2 w0 w R b n g V D Vi Vq Q H Q' H') (hu : w.ownsRow B 3 1 U l.length (ivs l)) {U' : Value} (hv : w.ownsRow C 3 1 U' l.length (ivs l)) (hn : l.length ≤ 1000000) : Calls Try.prog 11 #[U, U'] w fun e w' => e = .returned (.bool true) ∧ P2 w0 w' R b n g V D Vi Vq Q H Q' H' := by
  refine (ints_row hu hv hn).mono ?_
  rintro _ w' ⟨rfl, h1⟩
  exact ⟨rfl, h.kept h1⟩
theorem p_new (h : Lw w0 w R b 0 [] []) : ∃ V D, P2 w0 (w.alloc (.cells #[.slice none 0 0, .slice none 0 0] 29)) R b 0 w.heap.size V D (.slice none 0 0) (.slice none 0 0) [] [] [] [] := by
  obtain ⟨V, D, h1, h2⟩ := h
  refine ⟨V, D, h1.kept ((Below.refl _ w).alloc (Nat.le_refl _) _), h2.alloc h2.size _, ⟨Blk.new w 29 _, World.ownsRow_nil _ _ _ _, World.ownsRow_nil _ _ _ _, fun e => (by cases e), fun e => (by cases e), fun j e => (by cases e), h2.size⟩, fun j hm => ⟨fun e => ?_, fun e => (by cases e), fun e => (by cases e)⟩⟩
  have := h1.lt hm; omega
end
end Go.Proofs.Ytkhlimlcnlalgaa
