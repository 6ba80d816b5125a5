/- The lock beside two rows; what turns keep. -/
import Derived.Test.YtkhlimlcnlalgaaKr
namespace Go.Proofs.Ytkhlimlcnlalgaa
open Go.RowKit Go.Maps
set_option linter.unusedVariables false
set_option linter.unusedSimpArgs false
set_option maxRecDepth 100000
def T3 (w0 w : World) (R b n : Nat) (Q H : List Pq) (V1 : Value) (l1 : List Int) (V2 : Value) (l2 : List Int) : Prop :=
  ∃ V D, Lb w R b w0.heap.size n V D Q H ∧ Below w0.heap.size w0 w ∧ Ir w w0.heap.size V1 l1 ∧ Ir w w0.heap.size V2 l2 ∧ (∀ j, V1.ownBlock = some j → ¬ Mine R b V j ∧ V2.ownBlock ≠ some j) ∧ (∀ j, V2.ownBlock = some j → ¬ Mine R b V j)
section
variable {w0 w w' : World} {R b n : Nat} {Q H : List Pq} {V1 V2 U : Value} {l1 l2 l : List Int}
theorem T3.swap (h : T3 w0 w R b n Q H V1 l1 V2 l2) : T3 w0 w R b n Q H V2 l2 V1 l1 := by
  obtain ⟨V, D, h1, h2, h3, h4, h5, h6⟩ := h
  exact ⟨V, D, h1, h2, h4, h3, fun j hj => ⟨h6 j hj, fun e => (h5 j e).2 hj⟩, fun j hj => (h5 j hj).1⟩
theorem T3.lw (h : T3 w0 w R b n Q H V1 l1 V2 l2) : Lw w0 w R b n Q H := by
  obtain ⟨V, D, h1, h2, _⟩ := h
  exact ⟨V, D, h1, h2⟩
theorem T3.bel (h : T3 w0 w R b n Q H V1 l1 V2 l2) : Below w0.heap.size w0 w := h.lw.bel
theorem T3.one (h : T3 w0 w R b n Q H V1 l1 V2 l2) : Ir w w0.heap.size V1 l1 := by
  obtain ⟨V, D, h1, h2, h3, _⟩ := h
  exact h3
theorem T3.two (h : T3 w0 w R b n Q H V1 l1 V2 l2) : Ir w w0.heap.size V2 l2 := h.swap.one
theorem T3.mono (h : T3 w0 w R b n Q H V1 l1 V2 l2) {m : Nat} (hm : n ≤ m) : T3 w0 w R b m Q H V1 l1 V2 l2 := by
  obtain ⟨V, D, h1, h2⟩ := h
  exact ⟨V, D, h1.mono hm, h2⟩
theorem T3.read (h : T3 w0 w R b n Q H V1 l1 V2 l2) (hb : Below w.heap.size w w') : T3 w0 w' R b n Q H V1 l1 V2 l2 := by
  obtain ⟨V, D, h1, h2, h3, h4, h5⟩ := h
  exact ⟨V, D, h1.kept hb, h2.trans (hb.mono h2.size), h3.keep (fun j hj => hb.block j (h3.lt hj).2), h4.keep (fun j hj => hb.block j (h4.lt hj).2), h5⟩
theorem T3.new (h : T3 w0 w R b n Q H V1 l1 V2 l2) (hb : Below w.heap.size w w') (hu : w'.ownsRow w.heap.size 3 1 U l.length (ivs l)) : T3 w0 w' R b n Q H U l V2 l2 := by
  obtain ⟨V, D, h1, h2, h3, h4, h5⟩ := h.read hb
  obtain ⟨V', D', k1, k2, k3, k4, k5, k6⟩ := h
  have hi := Ir.of_row hu
  obtain ⟨Va, Da, j1, j2, j3, j4, j5, j6⟩ : T3 w0 w R b n Q H V1 l1 V2 l2 := ⟨V', D', k1, k2, k3, k4, k5, k6⟩
  refine ⟨V', D', k1.kept hb, k2.trans (hb.mono k2.size), hi.up k2.size, k4.keep (fun j hj => hb.block j (k4.lt hj).2), fun j hj => ⟨fun hm => ?_, fun e => ?_⟩, k6⟩
  · have := k1.lt hm
    have := (hi.lt hj).1
    omega
  · have := (k4.lt e).2
    have := (hi.lt hj).1
    omega
theorem T3.push (h : T3 w0 w R b n Q H V1 l1 V2 l2) (hi : Ir w' w0.heap.size U l) (hg : w.grownBy w' V1.ownBlock) (ho : ∀ k, U.ownBlock = some k → V1.ownBlock = some k ∨ w.heap.size ≤ k) : T3 w0 w' R b n Q H U l V2 l2 := by
  obtain ⟨V, D, h1, h2, h3, h4, h5, h6⟩ := h
  refine ⟨V, D, h1.grown hg (fun j e hm => (h5 j e).1 hm), h2.grown hg h2.size (fun k e => (h3.lt e).1), hi, h4.keep (fun j hj => hg.block j (h4.lt hj).2 (fun e => (h5 j e.symm).2 hj)), fun j hj => ⟨fun hm => ?_, fun e => ?_⟩, h6⟩
  · rcases ho j hj with e | e
    · exact (h5 j e).1 hm
    · have := h1.lt hm; omega
  · rcases ho j hj with e2 | e2
    · exact (h5 j e2).2 e
    · have := (h4.lt e).2; omega
theorem T3.cut {A : Option Addr} {m cap : Nat} {a c : List Int} (h : T3 w0 w R b n Q H (.slice A m cap) (a ++ c) V2 l2) : T3 w0 w R b n Q H (.slice (cutA A cap a.length) (m - a.length) (cap - a.length)) c V2 l2 := by
  obtain ⟨V, D, h1, h2, h3, h4, h5, h6⟩ := h
  exact ⟨V, D, h1, h2, h3.tail.1, h4, fun j hj => h5 j (h3.tail.2 j hj), h6⟩
theorem T3.lock {n2 : Nat} {V V' : Value} {D' : VD} {Q2 H2 : List Pq} (h1 : Lb w' R b w0.heap.size n2 V' D' Q2 H2) (hk : Kl w w' R b V V') (h0 : Below w0.heap.size w0 w') (h3 : Ir w w0.heap.size V1 l1) (h4 : Ir w w0.heap.size V2 l2) (h5 : ∀ j, V1.ownBlock = some j → ¬ Mine R b V j ∧ V2.ownBlock ≠ some j) (h6 : ∀ j, V2.ownBlock = some j → ¬ Mine R b V j) : T3 w0 w' R b n2 Q2 H2 V1 l1 V2 l2 := by
  have hm : ∀ j, j < w.heap.size → ¬ Mine R b V j → ¬ Mine R b V' j := by
    intro j hj hn hm
    rcases hm with e | e | e
    · exact hn (.inl e)
    · exact hn (.inr (.inl e))
    · rcases hk.own j e with e | e
      · exact hn (.inr (.inr e))
      · omega
  exact ⟨V', D', h1, h0, h3.keep (fun j hj => hk.block j (h3.lt hj).2 (h5 j hj).1), h4.keep (fun j hj => hk.block j (h4.lt hj).2 (h6 j hj)), fun j hj => ⟨hm j (h3.lt hj).2 (h5 j hj).1, (h5 j hj).2⟩, fun j hj => hm j (h4.lt hj).2 (h6 j hj)⟩
theorem t_ask (h : T3 w0 w R b n Q H V1 l1 V2 l2) (hn : n < 1000) (x : Int) (hx : wf x) (wr : Bool) (r : Bool) (hr : askR Q H x wr = r) : Calls Try.prog 9 #[.pointer (some ⟨R, 0, none⟩), .int .i64 x, .bool wr] w fun e w' => e = .returned (.bool r) ∧ T3 w0 w' R b (n + 1) (askQ Q H x wr) (askH Q H x wr) V1 l1 V2 l2 := by
  obtain ⟨V, D, h1, h2, h3, h4, h5, h6⟩ := h
  refine (ask_any h1 hn x hx wr).mono ?_
  rintro _ w' ⟨V', D', rfl, k1, k2⟩
  rw [hr]
  exact ⟨rfl, T3.lock k1 k2 (h2.trans (k2.below h1 h2.size)) h3 h4 h5 h6⟩
theorem t_leave (h : T3 w0 w R b n Q H V1 l1 V2 l2) (hn : n ≤ 1000) (x : Int) (hx : wf x) : Calls Try.prog 12 #[.pointer (some ⟨R, 0, none⟩), .int .i64 x] w fun e w' => ∃ A c g, e = .returned (.slice A (lvC Q H x).length c) ∧ T3 w0 w' R b n (lvQ Q H x) (lvH Q H x) V1 l1 V2 l2 ∧ Nl w' A c g (lvC Q H x) := by
  obtain ⟨V, D, h1, h2, h3, h4, h5, h6⟩ := h
  refine (leave_any h1 hn x hx).mono ?_
  rintro _ w' ⟨U, V', D', rfl, k1, k0, k2⟩
  obtain ⟨A, c, g, rfl, k3⟩ := nl_row k0
  exact ⟨A, c, g, rfl, T3.lock k1 k2 (h2.trans (k2.below h1 h2.size)) h3 h4 h5 h6, k3⟩
theorem t_new (h : Lw w0 w R b n Q H) : T3 w0 w R b n Q H (.slice none 0 0) [] (.slice none 0 0) [] := by
  obtain ⟨V, D, h1, h2⟩ := h
  exact ⟨V, D, h1, h2, .inl ⟨rfl, rfl⟩, .inl ⟨rfl, rfl⟩, fun j hj => (by cases hj), fun j hj => (by cases hj)⟩
end
/-- The first who waits may not come in. -/
def St (Q H : List Pq) : Prop := ∀ p Q', Q = p :: Q' → mayB H p.2 = false
theorem st_mv : ∀ Q H : List Pq, St (mvQ Q H) (mvH Q H)
  | [], H => fun p Q' e => by cases e
  | p :: Q, H => by
    unfold mvQ mvH
    by_cases h : mayB H p.2 = true
    · rw [if_pos h, if_pos h]
      exact st_mv Q _
    · rw [if_neg h, if_neg h]
      intro p' Q' e
      cases e
      simpa using h
theorem St.em {Q H : List Pq} (h : St Q H) : Em Q H := by
  intro e
  cases Q with
  | nil => rfl
  | cons p Q =>
    have := h p Q rfl
    rw [e, may_nil] at this
    cases this
theorem st_stays {Q H : List Pq} (h : St Q H) (hq : Q ≠ []) (Y : List Pq) : mvQ (Q ++ Y) H = Q ++ Y ∧ mvH (Q ++ Y) H = H := by
  cases Q with
  | nil => exact absurd rfl hq
  | cons p Q =>
    have h1 := h p Q rfl
    have h2 : ¬ mayB H p.2 = true := by rw [h1]; decide
    rw [List.cons_append]
    unfold mvQ mvH
    rw [if_neg h2, if_neg h2]
    exact ⟨rfl, rfl⟩
def Wr (Q : List Pq) (W : List Int) : Prop := ∀ p ∈ Q, (p.2 = 3 ↔ p.1 ∈ W)
theorem mvQ_sub {p : Pq} : ∀ {Q H : List Pq}, p ∈ mvQ Q H → p ∈ Q
  | [], H, h => h
  | t :: Q, H, h => by
    unfold mvQ at h
    split at h
    · exact List.mem_cons_of_mem _ (mvQ_sub h)
    · exact h
theorem mvH_sub {p : Pq} : ∀ {Q H : List Pq}, p ∈ mvH Q H → p ∈ Q ∨ p ∈ H
  | [], H, h => .inr h
  | t :: Q, H, h => by
    unfold mvH at h
    split at h
    · rcases mvH_sub h with h | h
      · exact .inl (List.mem_cons_of_mem _ h)
      · rcases List.mem_append.1 h with h | h
        · exact .inr h
        · rw [List.mem_singleton.1 h]
          exact .inl List.mem_cons_self
    · exact .inr h
theorem mvC_app : ∀ Q H : List Pq, keysOf Q = mvC Q H ++ keysOf (mvQ Q H)
  | [], H => rfl
  | t :: Q, H => by
    unfold mvC mvQ
    split
    · show t.1 :: keysOf Q = _
      rw [mvC_app Q (H ++ [t])]; rfl
    · rfl
theorem wo_id {l : List Int} {x : Int} (h : x ∉ l) : wo l x = l := List.filter_eq_self.2 (fun y hy => by
  have : y ≠ x := fun e => h (e ▸ hy)
  simpa using this)
theorem wo_mem {l : List Int} {x y : Int} : y ∈ wo l x ↔ y ∈ l ∧ y ≠ x := by unfold wo; rw [List.mem_filter]; simp
theorem wo_lt {l : List Int} {x : Int} (h : x ∈ l) : (wo l x).length < l.length := by
  rcases Nat.lt_or_ge (wo l x).length l.length with h1 | h1
  · exact h1
  · have := List.length_filter_eq_length_iff.1 (Nat.le_antisymm (wo_len l x) h1) x h
    simp at this
theorem leaveQ_keys {x : Int} : ∀ {Q : List Pq}, (keysOf Q).Nodup → qhas x Q = true → keysOf (leaveQ Q x) = wo (keysOf Q) x
  | [], _, h => by cases h
  | p :: Q, hn, h => by
    have hn : p.1 ∉ keysOf Q ∧ (keysOf Q).Nodup := List.nodup_cons.1 hn
    unfold leaveQ qpl
    by_cases e : p.1 = x
    · rw [if_pos e]
      show keysOf Q = wo (p.1 :: keysOf Q) x
      unfold wo
      rw [List.filter_cons, if_neg (by simp [e])]
      exact (wo_id (e ▸ hn.1)).symm
    · rw [if_neg e]
      have h' : qhas x Q = true := by
        unfold qhas at h
        rw [List.any_cons, show (p.1 == x) = false from beq_false_of_ne e] at h
        exact h
      have := leaveQ_keys hn.2 h'
      show p.1 :: keysOf (leaveQ Q x) = wo (p.1 :: keysOf Q) x
      rw [this]
      unfold wo
      rw [List.filter_cons, if_pos (by simpa using e)]
end Go.Proofs.Ytkhlimlcnlalgaa
