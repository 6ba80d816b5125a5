/- Stage 21's laws: a registry beside rows of texts. -/
import Derived.Test.YtlfjhbfhnlclpaaKa
namespace Go.Proofs.Ytlfjhbfhnlclpaa
open Go.RowKit
open Go.Lib
set_option linter.unusedVariables false
set_option linter.unusedSimpArgs false
set_option maxRecDepth 100000
/-- What stands, and is none of the registry's, stands still. -/
def Off (w w' : World) (S S' : List Nat) : Prop := w.heap.size ≤ w'.heap.size ∧ ON.KeepN w w' ∧ ∀ j, j < w.heap.size → j ∉ S → w'.heap[j]? = w.heap[j]? ∧ j ∉ S'
theorem Off.of {w w' : World} {S : List Nat} (h : Below w.heap.size w w') : Off w w' S S := ⟨h.size, ON.KeepN.of h, fun j h1 h2 => ⟨h.block j h1, h2⟩⟩
theorem Off.trans {a b c : World} {S T U : List Nat} (h : Off a b S T) (k : Off b c T U) : Off a c S U :=
  ⟨Nat.le_trans h.1 k.1, h.2.1.trans k.2.1, fun j h1 h2 => by
    obtain ⟨h3, h4⟩ := h.2.2 j h1 h2
    obtain ⟨k3, k4⟩ := k.2.2 j (Nat.lt_of_lt_of_le h1 h.1) h4
    exact ⟨k3.trans h3, k4⟩⟩
theorem Off.drewN {w : World} {S : List Nat} (q : Nat) : Off w (w.drewN q) S S := Off.of (below_drewN (Below.refl _ w) q)
section
variable {w0 w w' : World} {r M c c' : Nat} {n : Int} {E E' : List (Int × Nat)} {L L' : LN} {A : Option Addr} {cap g : Nat} {l : List ByteArray}
theorem Rl.past (h : Rl w0 w r M n E L c) (k : Went w w' r M n E L' c') : ∃ E', Rl w0 w' r M n E' L' c' ∧ Off w w' (blocks r M E) (blocks r M E') := by
  obtain ⟨E', h1, h2, h3, h4⟩ := k
  have hge : ∀ j ∈ blocks r M E', w0.heap.size ≤ j := fun j hj => by
    unfold blocks at hj
    rcases List.mem_cons.1 hj with rfl | hj
    · exact h.ge _ (by simp [blocks])
    · rcases List.mem_cons.1 hj with rfl | hj
      · exact h.ge _ (by simp [blocks])
      · obtain ⟨p, hp, rfl⟩ := List.mem_map.1 hj
        rcases h3 p hp with h5 | h5
        · exact h.ge _ (by unfold blocks; exact List.mem_cons_of_mem _ (List.mem_cons_of_mem _ (List.mem_map.2 ⟨p, h5, rfl⟩)))
        · exact Nat.le_trans h.bel.size h5
  refine ⟨E', ⟨h1, h.bel.trans (h2.below h.bel.size (fun j hj => h.ge j ?_)), hge⟩, h2.size, h4, fun j hj hn => ?_⟩
  · unfold blocks
    exact List.mem_cons_of_mem _ hj
  · unfold blocks at hn
    refine ⟨h2.block j hj (fun e => hn (List.mem_cons_of_mem _ e)), fun e => ?_⟩
    unfold blocks at e
    rcases List.mem_cons.1 e with rfl | e
    · exact hn List.mem_cons_self
    · rcases List.mem_cons.1 e with rfl | e
      · exact hn (List.mem_cons_of_mem _ List.mem_cons_self)
      · obtain ⟨p, hp, rfl⟩ := List.mem_map.1 e
        rcases h3 p hp with h5 | h5
        · exact hn (List.mem_cons_of_mem _ (List.mem_cons_of_mem _ (List.mem_map.2 ⟨p, h5, rfl⟩)))
        · omega
theorem Rl.off (h : Rl w0 w r M n E L c) (hb : Below w0.heap.size w0 w') {S S' : List Nat} (hS : ∀ j ∈ blocks r M E, j ∉ S) (k : Off w w' S S') : Rl w0 w' r M n E L c ∧ ∀ j ∈ blocks r M E, j ∉ S' :=
  ⟨⟨h.rg.keep (fun j hj => (k.2.2 j (h.rg.lts j hj) (hS j hj)).1) k.2.1, hb, h.ge⟩, fun j hj => (k.2.2 j (h.rg.lts j hj) (hS j hj)).2⟩
theorem Sl.off (h : Sl w A cap g l) {S S' : List Nat} (hb : l ≠ [] → g ∉ S) (k : Off w w' S S') : Sl w' A cap g l ∧ (l ≠ [] → g ∉ S') := by
  have hg : l ≠ [] → g < w.heap.size := fun hl => by
    cases l with
    | nil => exact absurd rfl hl
    | cons x l => exact (h.2 0 x rfl).2.1
  refine ⟨⟨h.1, fun j x hj => ?_⟩, fun hl => (k.2.2 g (hg hl) (hb hl)).2⟩
  obtain ⟨h1, h2, h3⟩ := h.2 j x hj
  have hl : l ≠ [] := fun e => by rw [e] at hj; cases hj
  refine ⟨h1, Nat.lt_of_lt_of_le h2 k.1, ?_⟩
  unfold World.cell? at h3 ⊢
  rw [(k.2.2 g h2 (hb hl)).1]
  exact h3
theorem sl_row2 {w : World} {B : Nat} {V : Value} {l : List ByteArray} (h : w.ownsRow B 9 1 V l.length (svs l)) : ∃ A cap g, V = .slice A l.length cap ∧ Sl w A cap g l ∧ (l ≠ [] → B ≤ g) := by
  have h' := h
  obtain ⟨A, cap, g, rfl, h1⟩ := sl_row h
  refine ⟨A, cap, g, rfl, h1, fun hl => ?_⟩
  cases l with
  | nil => exact absurd rfl hl
  | cons x l =>
    obtain ⟨h0, ⟨e1, e⟩ | ⟨b, cap', cur, e1, e2, e3, e4, e5, e6, e7⟩⟩ := h'
    · simp at e
    · have := (h1.2 0 x rfl).1
      rw [this] at e1
      cases e1
      exact e2
/-- A registry the law has made, and a row of texts beside it. -/
structure Rq (w0 w : World) (r M : Nat) (n : Int) (E : List (Int × Nat)) (L : LN) (c : Nat) (A : Option Addr) (cap g : Nat) (l : List ByteArray) : Prop where
  rl : Rl w0 w r M n E L c
  sl : Sl w A cap g l
  be : l ≠ [] → g ∉ blocks r M E
theorem Rq.below (h : Rq w0 w r M n E L c A cap g l) (hb : Below w.heap.size w w') : Rq w0 w' r M n E L c A cap g l := ⟨h.rl.below hb, h.sl.below hb, h.be⟩
theorem Rq.drewN (h : Rq w0 w r M n E L c A cap g l) (q : Nat) : Rq w0 (w.drewN q) r M n E L c A cap g l := h.below (below_drewN (Below.refl _ w) q)
theorem Rq.past (h : Rq w0 w r M n E L c A cap g l) (k : Went w w' r M n E L' c') : ∃ E', Rq w0 w' r M n E' L' c' A cap g l := by
  obtain ⟨E', h1, h2⟩ := h.rl.past k
  obtain ⟨h3, h4⟩ := h.sl.off h.be h2
  exact ⟨E', h1, h3, h4⟩
theorem under_rq (h : Rl w0 w r M n E L c) (hc : c ≤ 30000) (px : ByteArray) (hpx : px.size ≤ 1000000) (ks : List ByteArray) (hks : keysL (L.filter (pre px)) = ks) (m : Nat) (hm : ks.length = m) :
    Calls Try.prog 22 #[.pointer (some ⟨r, 0, none⟩), .string px] w fun e w' => ∃ A cap g, e = .returned (.slice A m cap) ∧ Rq w0 w' r M n E L c A cap g ks ∧ Below w.heap.size w w' ∧ (ks ≠ [] → w.heap.size ≤ g) := by
  refine (under_any h.rg hc px hpx ks hks m hm).mono ?_
  rintro e w' ⟨V, rfl, h1, h2⟩
  subst hm
  obtain ⟨A, cap, g, rfl, h3, h4⟩ := sl_row2 h1
  exact ⟨A, cap, g, rfl, ⟨h.below h2, h3, fun hl e => by have := h4 hl; have := h.rg.lts _ e; omega⟩, h2, h4⟩
theorem rq_find (h : Rq w0 w r M n E L c A cap g l) (k : ByteArray) (hk : k.size ≤ 1000000) (v : Int) (hv : findO k L = v) : Calls Try.prog 16 #[.pointer (some ⟨r, 0, none⟩), .string k] w fun e w' => e = .returned (.int .i64 v) ∧ Rq w0 w' r M n E L c A cap g l := by
  refine (find_any h.rl.rg k hk v hv).mono ?_
  rintro e w' ⟨rfl, rfl⟩
  exact ⟨rfl, h.drewN 1⟩
theorem rq_add (h : Rq w0 w r M n E L c A cap g l) (hc : c ≤ 30000) (k : ByteArray) (hk : k.size ≤ 40) (id : Int) (ok : Bool) (L' : LN) (ha : addO k id L = (ok, L')) : Calls Try.prog 25 #[.pointer (some ⟨r, 0, none⟩), .string k, .int .i64 id] w fun e w' => e = .returned (.bool ok) ∧ ∃ E', Rq w0 w' r M n E' L' (c + 2) A cap g l := by
  refine (add_any h.rl.rg hc k hk id ok L' ha).mono ?_
  rintro e w' ⟨rfl, h2⟩
  exact ⟨rfl, h.past h2⟩
theorem rq_rem (h : Rq w0 w r M n E L c A cap g l) (hc : c ≤ 30000) (k : ByteArray) (hk : k.size ≤ 40) (id : Int) (ok : Bool) (L' : LN) (ha : remO k id L = (ok, L')) : Calls Try.prog 26 #[.pointer (some ⟨r, 0, none⟩), .string k, .int .i64 id] w fun e w' => e = .returned (.bool ok) ∧ ∃ E', Rq w0 w' r M n E' L' (c + 2) A cap g l := by
  refine (rem_any h.rl.rg hc k hk id ok L' ha).mono ?_
  rintro e w' ⟨rfl, h2⟩
  exact ⟨rfl, h.past h2⟩
end
theorem all_pre (L : LN) : L.filter (pre ⟨#[]⟩) = L := List.filter_eq_self.2 (fun q _ => preB_empty q.1)
theorem keysL_len (L : LN) : (keysL L).length = L.length := by unfold keysL; rw [List.length_map]
theorem del_ins {k : ByteArray} {v : Int} {L : LN} (hu : getL k L = none) (hs : Srt L) : delL k (insL k v L) = L := by
  have h0 : ∀ a ∈ L, a.1 ≠ k := fun a ha e => by
    have := (getL_isSome (k := k) hs).2 ⟨a, ha, e⟩
    rw [hu] at this
    cases this
  have : ∀ L : LN, (∀ a ∈ L, a.1 ≠ k) → delL k (insL k v L) = L := by
    intro L
    induction L with
    | nil => intro _; unfold insL delL; simp
    | cons a L ih =>
      intro h
      have ha := h a List.mem_cons_self
      unfold insL
      by_cases h1 : klt k a.1 = true
      · rw [if_pos h1]
        have := delL_id (k := k) (L := a :: L) h
        unfold delL at this ⊢
        rw [List.filter_cons, if_neg (by simp)]
        exact this
      · rw [if_neg h1]
        rw [if_neg (fun e => ha e.symm)]
        have ih' := ih (fun x hx => h x (List.mem_cons_of_mem _ hx))
        unfold delL at ih' ⊢
        rw [List.filter_cons, if_pos (by simpa using ha), ih']
  exact this L h0
theorem findO_none {k : ByteArray} {L : LN} (hp : ∀ q ∈ L, 0 ≤ q.2) (h : findO k L < 0) : getL k L = none ∧ findO k L = -1 := by
  unfold findO at h ⊢
  cases hc : getL k L with
  | none => exact ⟨rfl, rfl⟩
  | some x =>
    rw [hc] at h
    have := hp _ (getL_mem hc)
    simp at h this
    omega
theorem findO_some {k : ByteArray} {L : LN} (h : 0 ≤ findO k L) : (getL k L).isSome = true := by
  unfold findO at h
  cases hc : getL k L with
  | none => rw [hc] at h; simp at h
  | some x => rfl
end Go.Proofs.Ytlfjhbfhnlclpaa
