/- Two replicas side by side; items cut in two. -/
import Derived.Test.YtpmgabeefppajaaRg
namespace Go.Proofs.Ytpmgabeefppajaa
open Go.RowKit
open Go.Lib
open Go.ChangeShapes Go.ChangeAt
set_option linter.unusedVariables false
set_option linter.unusedSimpArgs false
set_option maxRecDepth 100000
/-- The address behind a cut. -/
def cutI (A : Option Addr) (cap k : Nat) : Option Addr := if cap = k then A else A.map fun p => p.add (k * 4)
theorem cut_to (A : Option Addr) (n cap k : Nat) (hk : k ≤ cap) (W : World) : (Instr.sliceAt 28 (.slice A n cap) none (some (.int .i64 (k : Int))) none).run Try.prog W = .ok (.slice A k cap) W := by
  rw [run_sliceAt_slice W 28 _ _ _ _ (by exact Try.underlying28), run_slice_h W 28 _ _ _ (by exact Try.underlying28) _ _ (by omega) (by omega)]
  have e : Try.prog.elem 28 = 41 := by kernel_rfl
  have e2 : (sizeOf 41).run Try.prog W = .ok 4 W := by kernel_rfl
  rw [e, e2]
  simp only [Result.andThen, sliced, Int.toNat_natCast, Nat.zero_mul, Nat.sub_zero]
  congr 2
  by_cases h : cap = 0
  · rw [if_pos h]
  · rw [if_neg h]
    cases A <;> rfl
theorem cut_from (A : Option Addr) (n cap k : Nat) (hk : k ≤ n) (W : World) : (Instr.sliceAt 28 (.slice A n cap) (some (.int .i64 (k : Int))) none none).run Try.prog W = .ok (.slice (cutI A cap k) (n - k) (cap - k)) W := by
  rw [run_sliceAt_slice W 28 _ _ _ _ (by exact Try.underlying28), run_slice_l W 28 _ _ _ (by exact Try.underlying28) _ _ (by omega) (by omega)]
  have e : Try.prog.elem 28 = 41 := by kernel_rfl
  have e2 : (sizeOf 41).run Try.prog W = .ok 4 W := by kernel_rfl
  rw [e, e2]
  simp only [Result.andThen, sliced, Int.toNat_natCast, cutI]
theorem Its.take {w : World} {A : Option Addr} {len cap b off : Nat} {xs : List It} (h : Its w A len cap b off xs) (k : Nat) (hk : k ≤ len) : Its w A k cap b off (xs.take k) :=
  ⟨by rw [List.length_take, h.hlen]; omega, Nat.le_trans hk h.le, fun hl => h.addr (by omega), fun j t hj => h.cell j t (by
    have hlt := (List.getElem?_eq_some_iff.1 hj).1
    rw [List.length_take] at hlt
    rw [List.getElem?_take, if_pos (by omega)] at hj
    exact hj)⟩
theorem Its.drop {w : World} {A : Option Addr} {len cap b off : Nat} {xs : List It} (h : Its w A len cap b off xs) (k : Nat) (hk : k ≤ len) : Its w (cutI A cap k) (len - k) (cap - k) b (off + k * 4) (xs.drop k) :=
  ⟨by rw [List.length_drop, h.hlen], by have := h.le; omega, fun hl => by
    obtain ⟨e, hb⟩ := h.addr (by omega)
    have := h.le
    subst e
    refine ⟨?_, hb⟩
    unfold cutI
    rw [if_neg (by omega)]
    simp only [Option.map_some]
    rw [add_plain], fun j t hj => by
    rw [List.getElem?_drop] at hj
    have := h.cell (k + j) t hj
    have e : off + (k + j) * 4 = off + k * 4 + j * 4 := by omega
    rw [e] at this
    exact this⟩
/-- Two replicas of a law. -/
structure T2 (w wr : World) (g m : Nat) (R : Rs) (g2 m2 : Nat) (R2 : Rs) (n n2 : Nat) : Prop where
  s1 : Sr w wr g m n R
  s2 : Sr w wr g2 m2 n2 R2
  hg : g ≠ g2
  hm : m ≠ m2
section
variable {w wr w' : World} {g m g2 m2 n n2 : Nat} {R R2 : Rs}
theorem T2.swap (h : T2 w wr g m R g2 m2 R2 n n2) : T2 w wr g2 m2 R2 g m R n2 n := ⟨h.s2, h.s1, fun e => h.hg e.symm, fun e => h.hm e.symm⟩
theorem T2.step (h : T2 w wr g m R g2 m2 R2 n n2) (hb : Below wr.heap.size wr w') : T2 w w' g m R g2 m2 R2 n n2 := ⟨h.s1.step hb, h.s2.step hb, h.hg, h.hm⟩
theorem T2.drew (h : T2 w wr g m R g2 m2 R2 n n2) : T2 w wr.drew g m R g2 m2 R2 n n2 := h.step (Below.refl _ _).drew
theorem T2.fold (h : T2 w wr g m R g2 m2 R2 n n2) (hn : n ≤ 100) {r : Rq} (hr : rqI w r) (hl : rqLight r = true) (asked : Int) (F : Rs) (hF : foldR R asked r.k r.e r.tok r.more r.xs = F) (E : Int) (hE : foldE R asked r.k r.e r.tok r.xs = E) :
    Calls Try.prog 12 #[.pointer (some ⟨g, 0, none⟩), .int .i64 asked, .agg (rqA r)] wr fun x w' => x = .returned (.int .i64 E) ∧ ∃ m1, T2 w w' g m1 F g2 m2 R2 (n + 1) n2 ∧ (∀ b t cs, Blk wr b t cs → t ≠ 67 → t ≠ 103 → Blk w' b t cs) := by
  refine (h.s1.fold hn hr hl asked F hF E hE).mono ?_
  rintro _ w' ⟨rfl, m1, hs, hk, hm⟩
  refine ⟨rfl, m1, ⟨hs, ⟨h.s2.rp.keep h.s1.rp hk (fun e => h.hg e.symm) (fun e => h.hm e.symm), h.s2.len, h.s2.nms, hs.bel, h.s2.hg, h.s2.hm⟩, h.hg, ?_⟩, fun b t cs hb h1 h2 => ?_⟩
  · rcases hm with e | e
    · rw [e]; exact h.hm
    · have := h.s2.rp.2.lt; omega
  · obtain ⟨e1, e2⟩ := h.s1.rp.far hb h1 h2
    exact (hk.block b hb.lt e1 e2).trans hb
/-- Are two replicas alike: both rows of cards at once. -/
theorem T2.new (h1 : Sr w wr g m n R) (hb : Below wr.heap.size wr w') (h2 : Rp w' g2 m2 [] 0 false) (hg : wr.heap.size ≤ g2) (hm : wr.heap.size ≤ m2) : T2 w w' g m R g2 m2 ⟨[], 0, false⟩ n 0 := by
  have e1 := h1.rp.lt
  have e2 := h1.rp.2.lt
  have hs := h1.bel.size
  exact ⟨h1.step hb, Sr.new h2 (h1.bel.trans (hb.mono hs)) (by omega) (by omega), by omega, by omega⟩
end
theorem rq_take {r : Rq} {w : World} (h : rqI w r) (k : Nat) (hk : k ≤ r.len) (tok : Int) (more : Bool) : rqI w { r with len := k, tok := tok, more := more, xs := r.xs.take k } := Its.take h k hk
theorem rq_drop {r : Rq} {w : World} (h : rqI w r) (k : Nat) (hk : k ≤ r.len) : rqI w { r with A := cutI r.A r.cap k, len := r.len - k, cap := r.cap - k, off := r.off + k * 4, xs := r.xs.drop k } := Its.drop h k hk
theorem light_take {r : Rq} (h : rqLight r = true) (k : Nat) (tok : Int) (more : Bool) : rqLight { r with len := k, tok := tok, more := more, xs := r.xs.take k } = true := by
  unfold rqLight lightB at *
  simp only [Bool.and_eq_true, decide_eq_true_eq, List.all_eq_true, List.length_take] at *
  exact ⟨⟨h.1.1, by omega⟩, fun t ht => h.2 t (List.mem_of_mem_take ht)⟩
theorem light_drop {r : Rq} (h : rqLight r = true) (k : Nat) (A : Option Addr) (len cap off : Nat) : rqLight { r with A := A, len := len, cap := cap, off := off, xs := r.xs.drop k } = true := by
  unfold rqLight lightB at *
  simp only [Bool.and_eq_true, decide_eq_true_eq, List.all_eq_true, List.length_drop] at *
  exact ⟨⟨h.1.1, by omega⟩, fun t ht => h.2 t (List.mem_of_mem_drop ht)⟩
/-- An answer that comes in two. -/
theorem fold_two {k e tok m : Int} {more : Bool} {xs : List It} {at_ : Nat} (h : foldE ⟨[], 0, false⟩ 0 k e tok xs = 0) (he : e = 0) (hm1 : 1 ≤ m) (hm : m ≤ tok) (hv : ∀ t ∈ xs.drop at_, m < t.v) :
    ∃ L1, foldR ⟨[], 0, false⟩ 0 k e m true (xs.take at_) = ⟨L1, m, true⟩ ∧ foldE ⟨[], 0, false⟩ 0 k e m (xs.take at_) = 0 ∧ foldR ⟨L1, m, true⟩ m k e tok more (xs.drop at_) = ⟨takes [] xs, tok, more⟩ ∧ foldE ⟨L1, m, true⟩ m k e tok (xs.drop at_) = 0 ∧ foldR ⟨[], 0, false⟩ 0 k e tok more xs = ⟨takes [] xs, tok, more⟩ := by
  obtain ⟨_, h2⟩ := foldE_zero (more := more) h
  rcases h2 with ⟨h2, _⟩ | ⟨_, _, hk, hf, _, hr⟩
  · rw [he] at h2; cases h2
  obtain ⟨f1, f2⟩ := folB_cut (a := 0) hf hm1 hm hv
  have m0 : m ≠ 0 := by omega
  refine ⟨takes [] (xs.take at_), ?_, ?_, ?_, ?_, ?_⟩
  · unfold foldR
    rw [if_neg (by rintro (h | h); exact h hk; exact h rfl), if_neg (by omega), if_neg (by omega), if_pos f1]
    rfl
  · unfold foldE
    rw [if_neg (by rintro (h | h); exact h hk; exact h rfl), if_neg (by omega), if_neg (by omega), if_pos f1]
  · unfold foldR
    rw [if_neg (by rintro (h | h); exact h hk; exact h rfl), if_neg (by omega), if_neg (by omega), if_pos f2, if_neg m0]
    show (⟨takes (takes [] (xs.take at_)) (xs.drop at_), tok, more⟩ : Rs) = _
    rw [← takes_append, List.take_append_drop]
  · unfold foldE
    rw [if_neg (by rintro (h | h); exact h hk; exact h rfl), if_neg (by omega), if_neg (by omega), if_pos f2]
  · rw [hr]; rfl
end Go.Proofs.Ytpmgabeefppajaa
