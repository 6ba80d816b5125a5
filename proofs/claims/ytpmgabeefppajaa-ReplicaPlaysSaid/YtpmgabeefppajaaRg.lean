/- A law's replica: what stands between its rounds. -/
import Derived.Test.YtpmgabeefppajaaRf
namespace Go.Proofs.Ytpmgabeefppajaa
open Go.RowKit
open Go.Lib
set_option linter.unusedVariables false
set_option linter.unusedSimpArgs false
set_option maxRecDepth 100000
def Nms (L : LK) : Prop := ∀ q ∈ L, q.1.size ≤ 1000000
theorem tk1_nms {L : LK} (h : Nms L) (t : It) (ht : t.u.size ≤ 1000000) : Nms (tk1 L t) := by
  intro q hq
  unfold tk1 at hq
  split at hq
  · exact h q (delL_sub.subset hq)
  · rcases insL_mem hq with e | e
    · rw [e]; exact ht
    · exact h q e
theorem takes_nms : ∀ {xs : List It} {L : LK}, Nms L → (∀ t ∈ xs, t.u.size ≤ 1000000) → Nms (takes L xs)
  | [], L, h, _ => h
  | t :: xs, L, h, ht => takes_nms (xs := xs) (tk1_nms h t (ht t List.mem_cons_self)) (fun s hs => ht s (List.mem_cons_of_mem _ hs))
theorem foldR_nms {R : Rs} (h : Nms R.L) {xs : List It} (ht : ∀ t ∈ xs, t.u.size ≤ 1000000) (asked k e tok : Int) (more : Bool) : Nms (foldR R asked k e tok more xs).L := by
  have h0 : Nms [] := fun q hq => by simp at hq
  unfold foldR
  split
  · exact h
  · split
    · exact h0
    · split
      · exact h
      · split
        · refine takes_nms ?_ ht
          split
          · exact h0
          · exact h
        · exact h
theorem foldE_ne {R : Rs} {asked k e tok : Int} {more : Bool} {xs : List It} (h : foldE R asked k e tok xs ≠ 0) : foldR R asked k e tok more xs = R ∧ (foldE R asked k e tok xs = 10 ∨ foldE R asked k e tok xs = 1) := by
  unfold foldE at h ⊢
  unfold foldR
  by_cases h1 : k ≠ 8 ∨ asked ≠ R.tk
  · rw [if_pos h1, if_pos h1]; exact ⟨rfl, .inl rfl⟩
  · rw [if_neg h1] at h ⊢
    rw [if_neg h1]
    by_cases h2 : e = 8
    · rw [if_pos h2] at h; exact absurd rfl h
    · rw [if_neg h2] at h ⊢
      rw [if_neg h2]
      by_cases h3 : e ≠ 0
      · rw [if_pos h3, if_pos h3]; exact ⟨rfl, .inl rfl⟩
      · rw [if_neg h3] at h ⊢
        rw [if_neg h3]
        by_cases h4 : folB asked tok xs = true
        · rw [if_pos h4] at h; exact absurd rfl h
        · rw [if_neg h4, if_neg h4]; exact ⟨rfl, .inr rfl⟩
theorem foldE_zero {R : Rs} {asked k e tok : Int} {more : Bool} {xs : List It} (h : foldE R asked k e tok xs = 0) : asked = R.tk ∧ ((e = 8 ∧ foldR R asked k e tok more xs = ⟨[], 0, false⟩) ∨ (e ≠ 8 ∧ e = 0 ∧ k = 8 ∧ folB asked tok xs = true ∧ asked ≤ tok ∧ foldR R asked k e tok more xs = ⟨takes (if asked = 0 then [] else R.L) xs, tok, more⟩)) := by
  unfold foldE at h
  unfold foldR
  by_cases h1 : k ≠ 8 ∨ asked ≠ R.tk
  · rw [if_pos h1] at h; exact absurd h (by decide)
  · rw [if_neg h1] at h ⊢
    have ha : asked = R.tk := by
      by_cases h : asked = R.tk
      · exact h
      · exact absurd (.inr h) h1
    have hk : k = 8 := by
      by_cases h : k = 8
      · exact h
      · exact absurd (.inl h) h1
    refine ⟨ha, ?_⟩
    by_cases h2 : e = 8
    · rw [if_pos h2]; exact .inl ⟨h2, rfl⟩
    · rw [if_neg h2] at h ⊢
      by_cases h3 : e ≠ 0
      · rw [if_pos h3] at h; exact absurd h (by decide)
      · rw [if_neg h3] at h ⊢
        by_cases h4 : folB asked tok xs = true
        · rw [if_pos h4]
          refine .inr ⟨h2, by simpa using h3, hk, h4, ?_, rfl⟩
          unfold folB at h4
          simp only [Bool.and_eq_true, decide_eq_true_eq] at h4
          exact h4.1
        · rw [if_neg h4] at h; exact absurd h (by decide)
/-- A law's replica, after n answers. -/
structure Sr (w wr : World) (g m n : Nat) (R : Rs) : Prop where
  rp : Rp wr g m R.L R.tk R.mo
  len : R.L.length ≤ 120 * n
  nms : Nms R.L
  bel : Below w.heap.size w wr
  hg : w.heap.size ≤ g
  hm : w.heap.size ≤ m
section
variable {w wr w' : World} {g m n : Nat} {R : Rs}
theorem Sr.step (h : Sr w wr g m n R) (hb : Below wr.heap.size wr w') : Sr w w' g m n R := ⟨h.rp.below hb, h.len, h.nms, h.bel.trans (hb.mono h.bel.size), h.hg, h.hm⟩
theorem Sr.drewN (h : Sr w wr g m n R) (k : Nat) : Sr w (wr.drewN k) g m n R := h.step (below_drewN (Below.refl _ _) k)
theorem Sr.new (hr : Rp wr g m [] 0 false) (hb : Below w.heap.size w wr) (h1 : w.heap.size ≤ g) (h2 : w.heap.size ≤ m) : Sr w wr g m 0 ⟨[], 0, false⟩ := ⟨hr, Nat.le_refl _, fun q hq => by simp at hq, hb, h1, h2⟩
/-- Fold, on a law's replica, with an answer that came in. -/
theorem Sr.fold (h : Sr w wr g m n R) (hn : n ≤ 100) {r : Rq} (hr : rqI w r) (hl : rqLight r = true) (asked : Int) (F : Rs) (hF : foldR R asked r.k r.e r.tok r.more r.xs = F) (E : Int) (hE : foldE R asked r.k r.e r.tok r.xs = E) :
    Calls Try.prog 12 #[.pointer (some ⟨g, 0, none⟩), .int .i64 asked, .agg (rqA r)] wr fun x w' => x = .returned (.int .i64 E) ∧ ∃ m1, Sr w w' g m1 (n + 1) F ∧ Kr wr w' g m ∧ (m1 = m ∨ wr.heap.size ≤ m1) := by
  obtain ⟨h1, h2⟩ := light_rq hr hl
  have hu : ∀ t ∈ r.xs, t.u.size ≤ 1000000 := fun t ht => Nat.le_trans (h2 t ht) (by decide)
  have hlen := h.len
  have hg := h.hg
  have hm := h.hm
  refine (fold_any h.rp (rqI_below hr h.bel) (fun hl => by have := rq_lt hr hl; exact ⟨by omega, by omega⟩) (by omega) (by omega) hu asked r.k r.e r.tok r.ver r.card r.idx r.more F hF E hE).mono ?_
  rintro _ w' ⟨rfl, m1, hf⟩
  have hs := h.bel.size
  refine ⟨rfl, m1, ⟨hf.rp, ?_, ?_, h.bel.trans (hf.kr.below hs hg hm), hg, ?_⟩, hf.kr, hf.hm⟩
  · rw [← hF]
    have := foldR_len h.rp.2.srt asked r.k r.e r.tok r.more r.xs
    have e := hr.hlen
    omega
  · rw [← hF]; exact foldR_nms h.nms hu _ _ _ _ _
  · rcases hf.hm with e | e
    · rw [e]; exact hm
    · omega
theorem Sr.cards (h : Sr w wr g m n R) (hn : n ≤ 100) : Calls Try.prog 18 #[.pointer (some ⟨g, 0, none⟩)] wr fun e w' => ∃ A cap b, e = .returned (.slice A R.L.length cap) ∧ Its w' A R.L.length cap b 0 (itsK R.L) ∧ Below wr.heap.size wr w' ∧ (0 < R.L.length → wr.heap.size ≤ b) := cards_its h.rp (by have := h.len; omega) h.nms
end
end Go.Proofs.Ytpmgabeefppajaa
