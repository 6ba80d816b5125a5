/- Split, the document's. -/
import Derived.Test.YthcjbljkokflgaaFaq
import Derived.Test.YthcjbljkokflgaaFar
import Derived.Test.YthcjbljkokflgaaFas
import Derived.Test.YthcjbljkokflgaaFat
import Derived.Test.YthcjbljkokflgaaFau
import Derived.Test.YthcjbljkokflgaaFav
import Derived.Test.YthcjbljkokflgaaFaw
import Derived.Test.YthcjbljkokflgaaFap
import Derived.Test.YthcjbljkokflgaaFaf
import Derived.Test.YthcjbljkokflgaaFaa
import Derived.Deep.RegionHeld3
import Derived.Deep.DrawnRows
set_option linter.unnecessarySimpa false
/- A collection: Apply. -/
namespace Go.Proofs.Ythcjbljkokflgaa
open Go.RowKit
open Go.Lib
set_option linter.unusedVariables false
set_option linter.unusedSimpArgs false
set_option maxRecDepth 100000
theorem apply_any {w : World} {B g : Nat} {c : Cs} (h : Cl w B g c) (hB : B ≤ w.heap.size) (hz : Cz c) (del : Bool) (uid card : ByteArray) (k v tok : Int) (hcs : card.size ≤ 1000000) :
    Calls Try.prog 16 #[.pointer (some ⟨g, 0, none⟩), .agg #[.bool del, .string uid, .string card, .int .i64 k, .int .i64 v], .int .i64 tok] w (ApP w B g (applyC c del uid card tok)) := by
  unfold applyC
  by_cases hno : noC c del uid tok = true
  · rw [if_pos hno]
    unfold noC at hno
    by_cases hla : tok < c.latest
    · exact ap_na h hB hz del uid card k v tok hcs hla
    · cases hth : (getL uid c.L).isSome with
      | true => rw [hth, decide_eq_false hla] at hno; cases del <;> simp at hno
      | false =>
        cases del with
        | true => exact ap_nb h hB hz uid card k v tok hcs hth hla
        | false =>
          rw [hth, decide_eq_false hla] at hno
          exact ap_nc h hB hz uid card k v tok hcs hth hla (by simpa using hno)
  · rw [if_neg hno]
    unfold noC at hno
    have hla : ¬ tok < c.latest := fun e => hno (by rw [decide_eq_true e]; rfl)
    cases hth : (getL uid c.L).isSome with
    | true =>
      cases del with
      | true =>
        by_cases hr : (c.ring.length : Int) < c.lmost
        · exact ap_dr h hB hz uid card k v tok hcs hth hla hr
        · exact ap_df h hB hz uid card k v tok hcs hth hla hr
      | false =>
        by_cases hr : (c.ring.length : Int) < c.lmost
        · exact ap_pr h hB hz uid card k v tok hcs hth hla hr
        · exact ap_pf h hB hz uid card k v tok hcs hth hla hr
    | false =>
      rw [hth, decide_eq_false hla] at hno
      cases del with
      | true => exact absurd rfl hno
      | false =>
        have hmo : ¬ c.most ≤ (c.L.length : Int) := by simpa using hno
        by_cases hr : (c.ring.length : Int) < c.lmost
        · exact ap_nr h hB hz uid card k v tok hcs hth hla hmo hr
        · exact ap_nf h hB hz uid card k v tok hcs hth hla hmo hr
end Go.Proofs.Ythcjbljkokflgaa
/- The collection and the reference's, side by side: maths. -/
namespace Go.Proofs.Ythcjbljkokflgaa
open Go.RowKit
open Go.Lib
set_option linter.unusedVariables false
set_option linter.unusedSimpArgs false
set_option maxRecDepth 100000
theorem plc_lt1 {u : ByteArray} {p : ByteArray × (Int × ByteArray)} {L : LK} (h : klt p.1 u = true) : plc u (p :: L) = plc u L + 1 := by
  unfold plc
  rw [List.filter_cons_of_pos (by exact h)]; rfl
theorem plc_ge0 {u : ByteArray} {p : ByteArray × (Int × ByteArray)} {L : LK} (hs : Srt (p :: L)) (h : klt p.1 u = false) : plc u (p :: L) = 0 := by
  unfold plc
  rw [List.filter_eq_nil_iff.2]
  · rfl
  intro a ha e
  rcases List.mem_cons.1 ha with rfl | ha
  · rw [h] at e; cases e
  · have := klt_trans ((List.pairwise_cons.1 hs).1 a ha) e; rw [h] at this; cases this
theorem get_gt {u : ByteArray} {p : ByteArray × (Int × ByteArray)} {L : LK} (hs : Srt (p :: L)) (h : klt p.1 u = false) : getL u L = none := getL_none fun a ha e => by
  subst e
  have := (List.pairwise_cons.1 hs).1 a ha
  rw [h] at this; cases this
theorem rRow_put : ∀ {L : LK}, Srt L → ∀ uid card tok, rRow L false uid card tok = insL uid (tok, card) L
  | [], _, uid, card, tok => rfl
  | p :: L, hs, uid, card, tok => by
    by_cases h : klt p.1 uid = true
    · have ih := rRow_put (List.pairwise_cons.1 hs).2 uid card tok
      have hne : uid ≠ p.1 := fun e => by rw [e, klt_irr] at h; cases h
      unfold rRow at ih ⊢
      rw [plc_lt1 h, getL_cons, if_neg hne]
      conv => rhs; unfold insL
      rw [if_neg (show ¬ klt uid p.1 = true by rw [klt_asym h]; decide), if_neg hne, ← ih]
      cases (getL uid L).isSome <;> simp
    · have h2 : klt p.1 uid = false := by simpa using h
      unfold rRow
      rw [plc_ge0 hs h2, getL_cons]
      by_cases e : uid = p.1
      · rw [if_pos e]; unfold insL; rw [if_neg (show ¬ klt uid p.1 = true by rw [← e, klt_irr]; decide), if_pos e]; simp
      · rw [if_neg e, get_gt hs h2]; unfold insL; rw [if_pos ((klt_total e).resolve_right (by rw [h2]; decide))]; simp
theorem rRow_del : ∀ {L : LK}, Srt L → ∀ uid card tok, (getL uid L).isSome = true → rRow L true uid card tok = delL uid L
  | [], _, uid, card, tok, h => by cases h
  | p :: L, hs, uid, card, tok, hth => by
    by_cases h : klt p.1 uid = true
    · have hne : uid ≠ p.1 := fun e => by rw [e, klt_irr] at h; cases h
      rw [getL_cons, if_neg hne] at hth
      have ih := rRow_del (List.pairwise_cons.1 hs).2 uid card tok hth
      unfold rRow at ih ⊢
      rw [plc_lt1 h, getL_cons, if_neg hne]
      unfold delL at ih ⊢
      rw [List.filter_cons_of_pos (by simpa using fun e : p.1 = uid => hne e.symm), ← ih]
      rw [hth]
      simp
    · have h2 : klt p.1 uid = false := by simpa using h
      unfold rRow
      rw [plc_ge0 hs h2, getL_cons]
      by_cases e : uid = p.1
      · rw [if_pos e]
        unfold delL
        rw [List.filter_cons_of_neg (by simp [e])]
        simp only [Option.isSome_some, if_true, Nat.zero_add, List.drop_succ_cons, List.drop_zero, List.take_zero, List.nil_append]
        refine Eq.symm (List.filter_eq_self.2 fun a ha => ?_)
        have := (List.pairwise_cons.1 hs).1 a ha
        refine decide_eq_true fun e2 => ?_
        rw [e2, e, klt_irr] at this; cases this
      · rw [getL_cons, if_neg e, get_gt hs h2] at hth; cases hth
def oldN (o : Option (Int × ByteArray)) : Nat := (o.getD (0, .empty)).2.size
theorem oldS_N (o : Option (Int × ByteArray)) : oldS o = (oldN o : Int) := rfl
theorem bytes_ins : ∀ {L : LK}, Srt L → ∀ (u : ByteArray) (x : Int × ByteArray), bytesL (insL u x L) + oldN (getL u L) = bytesL L + x.2.size
  | [], _, u, x => by show x.2.size + 0 + 0 = 0 + x.2.size; omega
  | p :: L, hs, u, x => by
    unfold insL
    rw [getL_cons]
    by_cases h : klt u p.1 = true
    · rw [if_pos h, if_neg (fun e => by rw [e, klt_irr] at h; cases h), getL_none (fun a ha e => by have := klt_trans h ((List.pairwise_cons.1 hs).1 a ha); rw [e, klt_irr] at this; cases this)]
      show x.2.size + (p.2.2.size + bytesL L) + 0 = p.2.2.size + bytesL L + x.2.size
      omega
    · rw [if_neg h]
      by_cases e : u = p.1
      · rw [if_pos e, if_pos e]
        show x.2.size + bytesL L + p.2.2.size = p.2.2.size + bytesL L + x.2.size
        omega
      · rw [if_neg e, if_neg e]
        have := bytes_ins (List.pairwise_cons.1 hs).2 u x
        show p.2.2.size + bytesL (insL u x L) + oldN (getL u L) = p.2.2.size + bytesL L + x.2.size
        omega
theorem bytes_del : ∀ {L : LK}, Srt L → ∀ (u : ByteArray), bytesL (delL u L) + oldN (getL u L) = bytesL L
  | [], _, u => rfl
  | p :: L, hs, u => by
    rw [getL_cons]
    unfold delL
    by_cases e : u = p.1
    · rw [List.filter_cons_of_neg (by simp [e]), if_pos e]
      have : List.filter (fun q => decide (q.1 ≠ u)) L = L := List.filter_eq_self.2 fun a ha => by
        have := (List.pairwise_cons.1 hs).1 a ha
        refine decide_eq_true fun e2 => ?_
        rw [e2, e, klt_irr] at this; cases this
      rw [this]
      show bytesL L + p.2.2.size = p.2.2.size + bytesL L
      omega
    · rw [List.filter_cons_of_pos (by simpa using fun e2 : p.1 = u => e e2.symm), if_neg e]
      have := bytes_del (List.pairwise_cons.1 hs).2 u
      show p.2.2.size + bytesL (delL u L) + oldN (getL u L) = p.2.2.size + bytesL L
      omega
theorem ord_full {F : Nat} {l : List Chg} (hF : F < l.length) (x : Chg) : (ord F l ++ [x]).drop 1 = ord ((F + 1) % l.length) (l.set F x) := by
  have e2 : l.set F x = (l.take F ++ [x]) ++ l.drop (F + 1) := by
    rw [List.set_eq_take_append_cons_drop, if_pos hF]; simp
  have hl : (l.take F ++ [x]).length = F + 1 := by simp; omega
  unfold ord
  rw [List.drop_eq_getElem_cons hF]
  simp only [List.cons_append, List.drop_succ_cons, List.drop_zero]
  by_cases h : F + 1 = l.length
  · rw [← h, Nat.mod_self, e2, List.drop_eq_nil_of_le (by omega)]; simp
  · rw [Nat.mod_eq_of_lt (by omega), e2, List.drop_left' hl, List.take_left' hl]; simp
theorem ord_head {F : Nat} {l : List Chg} (hF : F < l.length) (x d : Chg) : (ord F l ++ [x]).headD d = l.getD F d := by
  unfold ord
  rw [List.drop_eq_getElem_cons hF]
  simp [hF]
theorem ord_zero (l : List Chg) : ord 0 l = l := by unfold ord; simp
/-- The collection is the reference's. -/
structure Sim (c : Cs) (R : Rs) : Prop where
  L : R.L = c.L
  log : R.log = ord c.F c.ring
  cards : R.cards = c.most
  lim : R.lim = c.lmost
  la : R.latest = c.latest
  ho : R.horizon = c.horizon
  so : R.log.Pairwise fun a b => a.1 ≤ b.1
  sl : ∀ q ∈ R.log, q.1 ≤ R.latest
/-- A collection behind k writes. -/
structure Inv (k : Nat) (c : Cs) : Prop where
  srt : Srt c.L
  n : c.L.length ≤ k
  r : c.ring.length ≤ k
  F0 : (c.ring.length : Int) < c.lmost → c.F = 0
  F1 : ¬ (c.ring.length : Int) < c.lmost → c.F < c.ring.length
  lm : 1 ≤ c.lmost
  mo : 1 ≤ c.most
  by_ : c.bytes = (bytesL c.L : Int)
  kl : ∀ p ∈ c.L, p.1.size ≤ 1000 ∧ p.2.2.size ≤ 10000
  kr : ∀ q ∈ c.ring, q.2.size ≤ 1000
theorem sim_new (birth cards log : Int) : Sim (newC birth cards log) (rnewC birth cards log) := ⟨rfl, rfl, rfl, rfl, rfl, rfl, List.Pairwise.nil, fun q h => by cases h⟩
theorem inv_new (birth cards log : Int) : Inv 0 (newC birth cards log) := ⟨List.Pairwise.nil, Nat.le_refl _, Nat.le_refl _, fun _ => rfl, (fun h => absurd (show ((0 : Nat) : Int) < max log 1 by omega) h), (show 1 ≤ max log 1 by omega), (show 1 ≤ max cards 1 by omega), rfl, (fun p h => by cases h), (fun p h => by cases h)⟩
/-- What the row of cards comes to. -/
def putL (L : LK) (del : Bool) (uid card : ByteArray) (tok : Int) : LK := if del = true then delL uid L else insL uid (tok, card) L
theorem rRow_eq {L : LK} (hs : Srt L) (del : Bool) (uid card : ByteArray) (tok : Int) (hd : del = true → (getL uid L).isSome = true) : rRow L del uid card tok = putL L del uid card tok := by
  cases del with
  | true => exact rRow_del hs uid card tok (hd rfl)
  | false => exact rRow_put hs uid card tok
theorem sim_yes {k : Nat} {c : Cs} {R : Rs} (h : Sim c R) (hi : Inv k c) (del : Bool) (uid card : ByteArray) (tok : Int) (hla : ¬ tok < c.latest) (hd : del = true → (getL uid c.L).isSome = true) : Sim (yesC c del uid card tok) (rYes R del uid card tok) := by
  obtain ⟨L, F, rg, mo, lm, la, ho, by_⟩ := c
  obtain ⟨L', lg, cd, li, la', ho'⟩ := R
  obtain ⟨e1, e2, e3, e4, e5, e6, hso, hsl⟩ := h
  simp only at e1 e2 e3 e4 e5 e6 hso hsl hla
  subst e1 e2 e3 e4 e5 e6
  have g1 : (ord F rg ++ [(tok, uid)]).Pairwise fun a b => a.1 ≤ b.1 := List.pairwise_append.2 ⟨hso, List.pairwise_singleton _ _, fun a ha b hb => by
    rw [List.mem_singleton.1 hb]
    have := hsl a ha
    show a.1 ≤ tok
    omega⟩
  have g2 : ∀ q ∈ ord F rg ++ [(tok, uid)], q.1 ≤ tok := fun q hq => by
    rcases List.mem_append.1 hq with hq | hq
    · have := hsl q hq; omega
    · rw [List.mem_singleton.1 hq]; exact Int.le_refl _
  have hF0 := hi.F0
  have hF1 := hi.F1
  have hs := hi.srt
  simp only at hF0 hF1 hs hd
  have hr := rRow_eq hs del uid card tok hd
  unfold rYes yesC rLog rpush
  simp only
  by_cases hf : (rg.length : Int) < li
  · have hx : ¬ li < ((ord F rg).length : Int) + 1 := by rw [ord_len]; omega
    rw [if_pos hf, if_neg hx]
    have h0 := hF0 hf
    subst h0
    exact ⟨hr, by simp only [ord_zero], rfl, rfl, rfl, rfl, g1, g2⟩
  · have hx : li < ((ord F rg).length : Int) + 1 := by rw [ord_len]; omega
    rw [if_neg hf, if_pos hx]
    have h1 := hF1 hf
    exact ⟨hr, ord_full h1 _, rfl, rfl, rfl, by rw [ord_head h1], g1.sublist (List.drop_sublist _ _), fun q hq => g2 q (List.mem_of_mem_drop hq)⟩
theorem inv_yes {k : Nat} {c : Cs} (hi : Inv k c) (del : Bool) (uid card : ByteArray) (tok : Int) (hu : uid.size ≤ 1000) (hc : card.size ≤ 10000) : Inv (k + 1) (yesC c del uid card tok) := by
  obtain ⟨L, F, rg, mo, lm, la, ho, by_⟩ := c
  obtain ⟨hs, hn, hr, h0, h1, hlm, hmo, hby, hkl, hkr⟩ := hi
  simp only at hs hn hr h0 h1 hlm hmo hby hkl hkr
  have e1 : Srt (if del = true then delL uid L else insL uid (tok, card) L) := by split; exact hs.del _; exact hs.ins
  have e2 : (if del = true then delL uid L else insL uid (tok, card) L).length ≤ k + 1 := by
    split
    · have := delL_len (k := uid) hs; omega
    · rw [insL_len hs]; split <;> omega
  have e3 : (if del = true then by_ - oldS (getL uid L) else by_ - oldS (getL uid L) + (card.size : Int)) = (bytesL (if del = true then delL uid L else insL uid (tok, card) L) : Int) := by
    split
    · have := bytes_del hs uid; rw [oldS_N]; omega
    · have := bytes_ins hs uid (tok, card); rw [oldS_N]; simp only at this; omega
  have e4 : ∀ p ∈ (if del = true then delL uid L else insL uid (tok, card) L), p.1.size ≤ 1000 ∧ p.2.2.size ≤ 10000 := by
    intro p hp
    split at hp
    · exact hkl p (delL_sub.subset hp)
    · rcases insL_mem hp with rfl | hp
      · exact ⟨hu, hc⟩
      · exact hkl p hp
  unfold yesC rpush
  simp only
  by_cases hf : (rg.length : Int) < lm
  · rw [if_pos hf]
    refine ⟨e1, e2, by simp; omega, fun _ => h0 hf, fun h => ?_, hlm, hmo, e3, e4, fun q hq => ?_⟩
    · have := h0 hf; simp; omega
    · rcases List.mem_append.1 hq with hq | hq
      · exact hkr q hq
      · rw [List.mem_singleton.1 hq]; exact hu
  · rw [if_neg hf]
    have h2 := h1 hf
    refine ⟨e1, e2, by simp; omega, fun h => absurd h (by simp; omega), fun h => ?_, hlm, hmo, e3, e4, fun q hq => ?_⟩
    · simp only [List.length_set]; exact Nat.mod_lt _ (by omega)
    · rcases List.mem_or_eq_of_mem_set hq with hq | hq
      · exact hkr q hq
      · rw [hq]; exact hu
theorem Inv.up {k m : Nat} {c : Cs} (h : Inv k c) (hk : k ≤ m) : Inv m c := ⟨h.srt, Nat.le_trans h.n hk, Nat.le_trans h.r hk, h.F0, h.F1, h.lm, h.mo, h.by_, h.kl, h.kr⟩
theorem bytesL_le2 : ∀ (L : LK), (∀ p ∈ L, p.2.2.size ≤ 10000) → bytesL L ≤ L.length * 10000
  | [], h => by simp [bytesL]
  | p :: L, h => by
    have h1 := h p List.mem_cons_self
    have h2 := bytesL_le2 L (fun q hq => h q (List.mem_cons_of_mem _ hq))
    simp only [bytesL, List.length_cons]
    omega
theorem Inv.cz {k : Nat} {c : Cs} (h : Inv k c) (hk : k ≤ 10000) : Cz c :=
  have hb := bytesL_le2 c.L (fun p hp => (h.kl p hp).2)
  have hn := h.n
  have hr := h.r
  ⟨by omega, by omega, h.F1, by rw [h.by_]; omega, by rw [h.by_]; omega, fun u x hx => by have := (h.kl _ (getL_mem hx)).2; simp only at this; omega⟩
theorem Inv.fit {k : Nat} {c : Cs} (h : Inv k c) (hk : k ≤ 10000) : FitC c :=
  have hn := h.n
  have hr := h.r
  ⟨fun hp => by by_cases e : (c.ring.length : Int) < c.lmost; (rw [h.F0 e]; exact hp); exact h.F1 e, by omega, by omega, fun q hq => by have := h.kr q hq; omega, fun q hq => by have := (h.kl q hq).1; omega⟩
/-- What the reference does with a write. -/
def rNo (R : Rs) (del : Bool) (uid : ByteArray) (tok : Int) : Bool := decide (tok < R.latest) || (del && !(getL uid R.L).isSome) || (!del && !(getL uid R.L).isSome && decide (R.cards ≤ (R.L.length : Int)))
def rAp (R : Rs) (del : Bool) (uid card : ByteArray) (tok : Int) : Bool × Rs := if rNo R del uid tok = true then (false, R) else (true, rYes R del uid card tok)
theorem sim_no {c : Cs} {R : Rs} (h : Sim c R) (del : Bool) (uid : ByteArray) (tok : Int) : rNo R del uid tok = noC c del uid tok := by
  unfold rNo noC
  rw [h.la, h.L, h.cards]
theorem sim_apply {k : Nat} {c : Cs} {R : Rs} (h : Sim c R) (hi : Inv k c) (del : Bool) (uid card : ByteArray) (tok : Int) (hu : uid.size ≤ 1000) (hc : card.size ≤ 10000) : (rAp R del uid card tok).1 = (applyC c del uid card tok).1 ∧ Sim (applyC c del uid card tok).2 (rAp R del uid card tok).2 ∧ Inv (k + 1) (applyC c del uid card tok).2 := by
  unfold rAp applyC
  rw [sim_no h]
  by_cases hn : noC c del uid tok = true
  · rw [if_pos hn, if_pos hn]
    exact ⟨rfl, h, hi.up (by omega)⟩
  · rw [if_neg hn, if_neg hn]
    refine ⟨rfl, sim_yes h hi del uid card tok (fun e => hn (by unfold noC; rw [decide_eq_true e]; rfl)) (fun e => ?_), inv_yes hi del uid card tok hu hc⟩
    cases hth : (getL uid c.L).isSome with
    | true => rfl
    | false => exact absurd (by unfold noC; rw [e, hth]; simp) hn
end Go.Proofs.Ythcjbljkokflgaa
/- What the reference's Since tells, and that both tell the same (maths). -/
namespace Go.Proofs.Ythcjbljkokflgaa
open Go.RowKit
open Go.Lib
set_option linter.unusedVariables false
set_option linter.unusedSimpArgs false
set_option maxRecDepth 100000
theorem get_any {k : ByteArray} : ∀ (M : List (ByteArray × Int)), (getL k M).isSome = M.any fun p => decide (p.1 = k)
  | [] => rfl
  | p :: M => by
    rw [getL_cons, List.any_cons, ← get_any M]
    by_cases e : k = p.1
    · rw [if_pos e, decide_eq_true e.symm]; rfl
    · rw [if_neg e, decide_eq_false (fun h => e h.symm), Bool.false_or]
theorem chg_any (L : LK) (k : ByteArray) (M : List (ByteArray × Int)) : (chgL L M).any (fun t => decide (t.u = k)) = (getL k M).isSome := by
  rw [get_any]
  unfold chgL
  rw [List.any_map]
  congr 1
  funext p
  show decide ((chgI L p).u = k) = _
  rw [chgI_u]
end Go.Proofs.Ythcjbljkokflgaa
/- The reference's Since. -/
namespace Go.Proofs.Ythcjbljkokflgaa
open Go.RowKit
open Go.Lib
set_option linter.unusedVariables false
set_option linter.unusedSimpArgs false
set_option maxRecDepth 100000
end Go.Proofs.Ythcjbljkokflgaa
/- The reference's Apply: nr. -/
namespace Go.Proofs.Ythcjbljkokflgaa
open Go.RowKit
open Go.Lib
set_option linter.unusedVariables false
set_option linter.unusedSimpArgs false
set_option maxRecDepth 100000
end Go.Proofs.Ythcjbljkokflgaa
/- The reference's Apply: nf. -/
namespace Go.Proofs.Ythcjbljkokflgaa
open Go.RowKit
open Go.Lib
set_option linter.unusedVariables false
set_option linter.unusedSimpArgs false
set_option maxRecDepth 100000
end Go.Proofs.Ythcjbljkokflgaa
/- The reference's Apply: tr. -/
namespace Go.Proofs.Ythcjbljkokflgaa
open Go.RowKit
open Go.Lib
set_option linter.unusedVariables false
set_option linter.unusedSimpArgs false
set_option maxRecDepth 100000
end Go.Proofs.Ythcjbljkokflgaa
/- The reference's Apply: tf. -/
namespace Go.Proofs.Ythcjbljkokflgaa
open Go.RowKit
open Go.Lib
set_option linter.unusedVariables false
set_option linter.unusedSimpArgs false
set_option maxRecDepth 100000
end Go.Proofs.Ythcjbljkokflgaa
/- The reference's Apply: dr. -/
namespace Go.Proofs.Ythcjbljkokflgaa
open Go.RowKit
open Go.Lib
set_option linter.unusedVariables false
set_option linter.unusedSimpArgs false
set_option maxRecDepth 100000
end Go.Proofs.Ythcjbljkokflgaa
/- The reference's Apply: df. -/
namespace Go.Proofs.Ythcjbljkokflgaa
open Go.RowKit
open Go.Lib
set_option linter.unusedVariables false
set_option linter.unusedSimpArgs false
set_option maxRecDepth 100000
end Go.Proofs.Ythcjbljkokflgaa
/- The reference's Apply refuses. -/
namespace Go.Proofs.Ythcjbljkokflgaa
open Go.RowKit
open Go.Lib
set_option linter.unusedVariables false
set_option linter.unusedSimpArgs false
set_option maxRecDepth 100000
end Go.Proofs.Ythcjbljkokflgaa
/- The reference's Apply, all ways. -/
namespace Go.Proofs.Ythcjbljkokflgaa
open Go.RowKit
open Go.Lib
set_option linter.unusedVariables false
set_option linter.unusedSimpArgs false
set_option maxRecDepth 100000
end Go.Proofs.Ythcjbljkokflgaa
/- The acts and the writes that a law is given: where they lie, are they light. -/
namespace Go.Proofs.Ythcjbljkokflgaa
open Go.RowKit
open Go.Lib
set_option linter.unusedVariables false
set_option linter.unusedSimpArgs false
set_option maxRecDepth 100000
abbrev shOp : Sh := Sh.agg 5 [(0, 1, Sh.bool), (1, 1, Sh.str), (2, 1, Sh.str), (3, 2, (Sh.agg 2 [(0, 1, (Sh.int .i64)), (1, 1, (Sh.int .i64))]))]
/-- A write. -/
structure Ow where
  del : Bool
  uid : ByteArray
  card : ByteArray
  k : Int
  v : Int
abbrev opA (o : Ow) : Array Value := #[.bool o.del, .string o.uid, .string o.card, .int .i64 o.k, .int .i64 o.v]
def opC (o : Ow) : List Value := (opA o).toList
theorem op_open {w : World} {cs : List Value} (h : Sh.ok w shOp cs) : ∃ o : Ow, cs = opC o := by
  simp only [Sh.ok, Sh.okAll] at h
  obtain ⟨hl, ⟨d, e0⟩, ⟨u, e1, _⟩, ⟨c, e2, _⟩, ⟨_, ⟨k, e3, _⟩, ⟨v, e4, _⟩, _⟩, _⟩ := h
  match cs, hl with
  | [c0, c1, c2, c3, c4], _ =>
    simp at e0 e1 e2 e3 e4
    subst e0 e1 e2 e3 e4
    exact ⟨⟨d, u, c, k, v⟩, rfl⟩
/-- A row of them. -/
structure Ows (w : World) (A : Option Addr) (len cap b off : Nat) (l : List Ow) : Prop where
  hlen : l.length = len
  le : len ≤ cap
  addr : 0 < len → A = some ⟨b, off, none⟩ ∧ b < w.heap.size
  cell : ∀ (j : Nat) (a : Ow), l[j]? = some a → ∀ i, i < 5 → w.cell? ⟨b, off + j * 5 + i, none⟩ = (opC a)[i]?
theorem Ows.on {w w' : World} {A : Option Addr} {len cap b off : Nat} {l : List Ow} (h : Ows w A len cap b off l) (hb : Below w.heap.size w w') : Ows w' A len cap b off l :=
  ⟨h.hlen, h.le, fun e => ⟨(h.addr e).1, Nat.lt_of_lt_of_le (h.addr e).2 hb.size⟩, fun j a hj i hi => (hb.cell (p := ⟨b, _, none⟩) (h.addr (by have := (List.getElem?_eq_some_iff.1 hj).1; have := h.hlen; omega)).2).trans (h.cell j a hj i hi)⟩
theorem Ows_open {w : World} {A : Option Addr} {len cap : Nat} (S : Sh.ok w (Sh.slice 5 shOp) [.slice A len cap]) : ∃ b off l, Ows w A len cap b off l := by
  obtain ⟨b, off, hle, hmax, ha, hc⟩ := slice_at S (by omega)
  have H : ∀ i, i < len → ∃ a : Ow, ∀ j, j < 5 → w.cell? ⟨b, off + i * 5 + j, none⟩ = (opC a)[j]? := by
    intro i hi
    obtain ⟨cs, hl, hok, hcell⟩ := hc i hi
    obtain ⟨a, rfl⟩ := op_open hok
    exact ⟨a, hcell⟩
  refine ⟨b, off, List.ofFn (fun i : Fin len => Classical.choose (H i.1 i.2)), ⟨by simp, hle, ha, fun j a hj => ?_⟩⟩
  have hjl : j < len := by have := (List.getElem?_eq_some_iff.1 hj).1; simpa using this
  rw [List.getElem?_eq_getElem (by simpa using hjl)] at hj
  simp only [List.getElem_ofFn, Option.some.injEq] at hj
  have h2 := Classical.choose_spec (H j hjl)
  rw [hj] at h2
  exact h2
theorem Ows.addr' {w : World} {A : Option Addr} {len cap b off : Nat} {l : List Ow} (h : Ows w A len cap b off l) {q : Nat} {a : Ow} (ha : l[q]? = some a) : A = some ⟨b, off, none⟩ ∧ b < w.heap.size :=
  h.addr (by have := (List.getElem?_eq_some_iff.1 ha).1; have := h.hlen; omega)
theorem Ows.at_ {w wr : World} {A : Option Addr} {len cap b off : Nat} {l : List Ow} (h : Ows w A len cap b off l) (hb : Below w.heap.size w wr) {q : Nat} {a : Ow} (ha : l[q]? = some a) : wr.cell? ⟨b, off + q * 5, none⟩ = some (.bool a.del) ∧ wr.cell? ⟨b, off + q * 5 + 1, none⟩ = some (.string a.uid) ∧ wr.cell? ⟨b, off + q * 5 + 2, none⟩ = some (.string a.card) ∧ wr.cell? ⟨b, off + q * 5 + 3, none⟩ = some (.int .i64 a.k) ∧ wr.cell? ⟨b, off + q * 5 + 4, none⟩ = some (.int .i64 a.v) := by
  have hlt := (h.addr' ha).2
  have hc := h.cell q a ha
  have key : ∀ i v, i < 5 → (opC a)[i]? = some v → wr.cell? ⟨b, off + q * 5 + i, none⟩ = some v := fun i v hi hv => by
    rw [hb.cell (p := ⟨b, off + q * 5 + i, none⟩) hlt, hc i hi, hv]
  exact ⟨key 0 _ (by omega) rfl, key 1 _ (by omega) rfl, key 2 _ (by omega) rfl, key 3 _ (by omega) rfl, key 4 _ (by omega) rfl⟩
def litO (o : Ow) : Bool := decide (o.uid.size ≤ 60) && decide (o.card.size ≤ 1000)
theorem litO_iff {o : Ow} (h : litO o = true) : o.uid.size ≤ 60 ∧ o.card.size ≤ 1000 := by
  unfold litO at h
  simpa only [Bool.and_eq_true, decide_eq_true_eq] using h
theorem aall_snoc {α : Type} (p : α → Bool) (xs : List α) (q : Nat) (t : α) (h : xs[q]? = some t) : (xs.take (q + 1)).all p = ((xs.take q).all p && p t) := by
  rw [List.take_add_one, h]; simp
theorem aall_miss {α : Type} (p : α → Bool) (xs : List α) (q : Nat) (t : α) (h : xs[q]? = some t) (hp : p t = false) : xs.all p = false := by
  rw [List.all_eq_false]
  exact ⟨t, List.mem_of_getElem? h, by rw [hp]; decide⟩
def fewL (l : List Ow) : Bool := decide (l.length ≤ 20) && l.all litO
theorem fewL_iff {l : List Ow} (h : fewL l = true) : l.length ≤ 20 ∧ ∀ a ∈ l, litO a = true := by
  unfold fewL at h
  simpa only [Bool.and_eq_true, decide_eq_true_eq, List.all_eq_true] using h
set_option maxHeartbeats 8000000 in
theorem few_any {w : World} {A : Option Addr} {len cap b off : Nat} {l : List Ow} (h : Ows w A len cap b off l) : Calls Try.prog 24 #[.slice A len cap] w fun r w' => r = .returned (.bool (fewL l)) ∧ Below w.heap.size w w' := by
  have HI := Lib.hid h
  have hlen := h.hlen
  have hlc := h.le
  obtain ⟨r, hr⟩ : ∃ r, fewL l = r := ⟨_, rfl⟩
  have HR0 := Lib.hid hr.symm
  rw [hr]
  clear hr h
  by_cases n0 : (len : Int) > 20
  · have H0 := Lib.hid (show r = false by rw [HR0.out]; unfold fewL; rw [decide_eq_false (by omega)]; rfl)
    go_enter Try.func24, Try.ntmps24
    go_wp2
    go_ret
    exact ⟨by rw [H0.out]; rfl, Below.refl _ _⟩
  have HR := Lib.hid (show r = l.all litO by rw [HR0.out]; unfold fewL; rw [decide_eq_true (show l.length ≤ 20 by omega)]; rfl)
  have hnI : (len : Int) ≤ 20 := by omega
  clear HR0
  go_enter Try.func24, Try.ntmps24
  go_wp2
  go_loopw [3] (fun i wr => ∃ q : Nat, q ≤ len ∧ i = .int .i64 (q : Int) ∧ (l.take q).all litO = true ∧ Below w.heap.size w wr) (fun i _ => len - (intOf i).toNat)
  case atStart => exact ⟨0, Nat.zero_le _, rfl, by simp, Below.refl _ _⟩
  case round =>
    obtain ⟨q, hq, rfl, hall, hB⟩ := hrel
    have HB := Lib.hid hB
    have HAL := Lib.hid hall
    clear hB hall
    by_cases hql : q < len
    · obtain ⟨a, ha⟩ : ∃ a, l[q]? = some a := ⟨l[q]'(by rw [HI.out.hlen]; exact hql), List.getElem?_eq_getElem _⟩
      obtain ⟨rfl, hbl⟩ := HI.out.addr' ha
      have HSN := Lib.hid (aall_snoc litO l q a ha)
      have HMI := Lib.hid (aall_miss litO l q a ha)
      have hat := HI.out.at_ HB.out ha
      obtain ⟨d, u, c, k, v⟩ := a
      obtain ⟨-, a1, a2, -⟩ := hat
      simp only at a1 a2
      have hqI : (q : Int) < (len : Int) := by omega
      clear ha
      by_cases hu : (u.size : Int) > 60
      · have H0 := Lib.hid (show r = false by rw [HR.out, HMI.out (by unfold litO; simp only; rw [decide_eq_false (show ¬ u.size ≤ 60 by omega)]; rfl)])
        clear HSN HMI
        go_wp2
        go_ret
        exact ⟨by rw [H0.out]; rfl, HB.out⟩
      by_cases hc : (c.size : Int) > 1000
      · have H0 := Lib.hid (show r = false by rw [HR.out, HMI.out (by unfold litO; simp only; rw [decide_eq_false (show ¬ c.size ≤ 1000 by omega)]; simp)])
        clear HSN HMI
        go_wp2
        go_ret
        exact ⟨by rw [H0.out]; rfl, HB.out⟩
      have HN := Lib.hid (show (l.take (q + 1)).all litO = true by rw [HSN.out, HAL.out, Bool.true_and]; unfold litO; simp only; rw [decide_eq_true (show c.size ≤ 1000 by omega), decide_eq_true (show u.size ≤ 60 by omega)]; rfl)
      clear HSN HMI
      go_wp2
      go_roundw
      case rel => exact ⟨q + 1, by omega, by go_num, HN.out, HB.out⟩
      case measure => simp [intOf]; omega
    · obtain rfl : q = len := by omega
      have H0 := Lib.hid (show r = true by rw [HR.out]; have := HAL.out; rw [List.take_of_length_le (by omega)] at this; exact this)
      go_wp2
      go_ret
      exact ⟨by rw [H0.out]; rfl, HB.out⟩
end Go.Proofs.Ythcjbljkokflgaa
/- The collection beside the reference's: what stands; Apply of both, same. -/
namespace Go.Proofs.Ythcjbljkokflgaa
open Go.RowKit
open Go.Lib
set_option linter.unusedVariables false
set_option linter.unusedSimpArgs false
set_option maxRecDepth 100000
section
variable {w wr w' : World} {g r k : Nat} {c c' : Cs} {R R' : Rs} {b : Bool}
end
end Go.Proofs.Ythcjbljkokflgaa
/- The law's first example. -/
namespace Go.Proofs.Ythcjbljkokflgaa
open Go.RowKit
open Go.Lib
open Go.Shelf
set_option linter.unusedVariables false
set_option linter.unusedSimpArgs false
set_option maxRecDepth 100000
def uA : ByteArray := ⟨#[97]⟩
def cA : ByteArray := ⟨#[110, 97, 109, 101, 58, 65, 110, 110, 10]⟩
def fC0 : Cs := ⟨[], 0, [], 4, 4, 5, 5, 0⟩
def fC1 : Cs := ⟨[(uA, (6, cA))], 0, [(6, uA)], 4, 4, 6, 5, 9⟩
def fC2 : Cs := ⟨[], 0, [(6, uA), (7, uA)], 4, 4, 7, 5, 0⟩
theorem f_new : newC 5 4 4 = fC0 := by rfl
theorem f_ap1 : applyC fC0 false uA cA 6 = (true, fC1) := by rfl
theorem f_ap2 : applyC fC1 true uA .empty 7 = (true, fC2) := by rfl
theorem f_sin : sin0 fC2 5 = [⟨uA, 7, true, .empty⟩] := by rfl
theorem f_z0 : Cz fC0 := ⟨by decide, by decide, fun h => absurd (by decide) h, by decide, by decide, fun k x h => by cases h⟩
theorem f_z1 : Cz fC1 := ⟨by decide, by decide, fun h => absurd (by decide) h, by decide, by decide, fun k x h => by
  have := getL_mem h
  simp only [fC1, List.mem_singleton, Prod.mk.injEq] at this
  obtain ⟨_, rfl⟩ := this
  decide⟩
theorem f_fit : FitC fC2 := ⟨fun _ => by decide, by decide, by decide, fun q h => by
  simp only [fC2, List.mem_cons, List.not_mem_nil, or_false] at h
  rcases h with rfl | rfl <;> decide, fun q h => by cases h⟩
theorem kc_cl {w w' : World} {B g : Nat} {c : Cs} (h : Cl w B g c) (hb : Below w.heap.size w w') : Cl w' B g c := h.on hb
set_option maxHeartbeats 8000000 in
theorem first_any (w : World) : Calls Try.prog 12 #[] w fun e w' => e = .returned (.bool true) ∧ Below w.heap.size w w' := by
  have HN := Lib.hid (cl_new 5 4 4 w w.heap.size (Nat.le_refl _))
  rw [f_new] at HN
  have HA1 := Lib.hid (fun (W : World) (g : Nat) (h : Cl W w.heap.size g fC0) (hB : w.heap.size ≤ W.heap.size) => show Calls Try.prog 16 #[.pointer (some ⟨g, 0, none⟩), .agg #[.bool false, .string ⟨#[97]⟩, .string ⟨#[110, 97, 109, 101, 58, 65, 110, 110, 10]⟩, .int .i64 0, .int .i64 0], .int .i64 6] W (ApP W w.heap.size g (true, fC1)) from f_ap1 ▸ apply_any h hB f_z0 false uA cA 0 0 6 (by decide))
  have HA2 := Lib.hid (fun (W : World) (g : Nat) (h : Cl W w.heap.size g fC1) (hB : w.heap.size ≤ W.heap.size) => show Calls Try.prog 16 #[.pointer (some ⟨g, 0, none⟩), .agg #[.bool true, .string ⟨#[97]⟩, .string ⟨#[]⟩, .int .i64 0, .int .i64 0], .int .i64 7] W (ApP W w.heap.size g (true, fC2)) from f_ap2 ▸ apply_any h hB f_z1 true uA .empty 0 0 7 (by decide))
  have HS5 := Lib.hid (fun (W : World) (g : Nat) (h : Cl W w.heap.size g fC2) => since_chg h f_fit (T := 5) (by decide) (by decide) (by decide))
  have HS4 := Lib.hid (fun (W : World) (g : Nat) (h : Cl W w.heap.size g fC2) => since_bad h (T := 4) (by decide) (.inl (by decide)))
  have HLT := Lib.hid (fun (W : World) (g : Nat) (h : Cl W w.heap.size g fC2) => show Calls Try.prog 35 #[.pointer (some ⟨g, 0, none⟩)] W fun e w' => e = .returned (.int .i64 7) ∧ w' = W from cl_latest h)
  have HHZ := Lib.hid (fun (W : World) (g : Nat) (h : Cl W w.heap.size g fC2) => show Calls Try.prog 37 #[.pointer (some ⟨g, 0, none⟩)] W fun e w' => e = .returned (.int .i64 5) ∧ w' = W from cl_horizon h)
  go_enter Try.func12, Try.ntmps12
  go_wp2_with fail
  refine HN.out.mono ?_
  rintro _ w1 ⟨g, rfl, h1, h2, h3⟩
  have HC := Lib.hid h1
  have HB := Lib.hid h2
  clear h1 h2 h3 HN
  go_wp2_with fail
  refine (HA1.out _ g HC.out HB.out.size).mono ?_
  rintro _ w2 ⟨rfl, h1, h2⟩
  have HC2 := Lib.hid h1
  have HB2 := Lib.hid (HB.out.trans h2.below)
  clear h1 h2 HC HB HA1
  go_wp2_with fail
  refine (HA2.out _ g HC2.out HB2.out.size).mono ?_
  rintro _ w3 ⟨rfl, h1, h2⟩
  have HC3 := Lib.hid h1
  have HB3 := Lib.hid (HB2.out.trans h2.below)
  clear h1 h2 HC2 HB2 HA2
  go_wp2_with fail
  refine (HS5.out _ g HC3.out).mono ?_
  rintro _ w4 ⟨U, ys, h1, rfl, h2, h3⟩
  have HC4 := Lib.hid (kc_cl HC3.out h3)
  have HB4 := Lib.hid (HB3.out.trans (h3.mono HB3.out.size))
  have hys : ys = [⟨uA, 7, true, .empty⟩] := List.perm_singleton.1 (f_sin ▸ h1.1)
  subst hys
  obtain ⟨A, cap, b, rfl, hI⟩ := own_its h2
  obtain ⟨rfl, -⟩ := hI.addr (by decide)
  have hcap : 1 ≤ cap := hI.le
  obtain ⟨j0, j1, j2, j3⟩ := hI.cell 0 _ rfl
  simp only [Nat.zero_mul, Nat.zero_add, Nat.add_zero] at j0 j1 j2 j3
  have i0 : w4.cell? ⟨b, 0, none⟩ = some (.string ⟨#[97]⟩) := j0
  have i1 : w4.cell? ⟨b, 1, none⟩ = some (.int .i64 7) := j1
  have i2 : w4.cell? ⟨b, 2, none⟩ = some (.bool true) := j2
  have i3 : w4.cell? ⟨b, 3, none⟩ = some (.string ⟨#[]⟩) := j3
  clear j0 j1 j2 j3
  clear h1 h2 h3 HC3 HB3 HS5 hI
  go_wp2_with fail
  refine (HS4.out _ g HC4.out).mono ?_
  rintro _ wz ⟨rfl, hw0⟩
  replace hw0 := hw0.symm
  subst hw0
  clear HS4
  go_wp2_with (first
    | (go_at_call 35; refine (HLT.out _ g HC4.out).mono ?_; rintro _ wz ⟨rfl, hw0⟩; replace hw0 := hw0.symm; subst hw0)
    | (go_at_call 37; refine (HHZ.out _ g HC4.out).mono ?_; rintro _ wz ⟨rfl, hw0⟩; replace hw0 := hw0.symm; subst hw0)
    | fail)
  go_ret
  exact ⟨rfl, HB4.out⟩
end Go.Proofs.Ythcjbljkokflgaa
/- Both behind the same writes. -/
namespace Go.Proofs.Ythcjbljkokflgaa
open Go.RowKit
open Go.Lib
set_option linter.unusedVariables false
set_option linter.unusedSimpArgs false
set_option maxRecDepth 100000
end Go.Proofs.Ythcjbljkokflgaa
/- Since of both, side by side. -/
namespace Go.Proofs.Ythcjbljkokflgaa
open Go.RowKit
open Go.Lib
set_option linter.unusedVariables false
set_option linter.unusedSimpArgs false
set_option maxRecDepth 100000
theorem sin0_len {k : Nat} {c : Cs} (hi : Inv k c) (T : Int) : (sin0 c T).length ≤ k := by
  unfold sin0
  split
  · rw [itsK_len]; exact hi.n
  · rw [chgL_len]
    unfold lastL
    exact Nat.le_trans (accL_len _) (Nat.le_trans (List.takeWhile_sublist _).length_le (by rw [List.length_reverse, ord_len]; exact hi.r))
section
variable {w wr w' : World} {g r k : Nat} {c : Cs} {R : Rs}
end
theorem its_nil (w : World) : Its w none 0 0 0 0 [] := ⟨rfl, Nat.le_refl _, fun h => absurd h (by omega), fun j t h => by simp at h⟩
end Go.Proofs.Ythcjbljkokflgaa
/- Since at any token, of both; rows that a law spoils. -/
namespace Go.Proofs.Ythcjbljkokflgaa
open Go.RowKit
open Go.Lib
set_option linter.unusedVariables false
set_option linter.unusedSimpArgs false
set_option maxRecDepth 100000
def BadT (c : Cs) (T : Int) : Prop := T ≠ 0 ∧ (T < c.horizon ∨ c.latest < T)
theorem badT_no {c : Cs} {T : Int} (h : ¬ BadT c T) : T = 0 ∨ (c.horizon ≤ T ∧ T ≤ c.latest) := by
  by_cases h0 : T = 0
  · exact .inl h0
  · exact .inr ⟨Int.not_lt.1 fun e => h ⟨h0, .inl e⟩, Int.not_lt.1 fun e => h ⟨h0, .inr e⟩⟩
open Classical in
noncomputable def errC (c : Cs) (T : Int) : Int := if BadT c T then 8 else 0
open Classical in
def TellC (c : Cs) (T : Int) (ys : List It) : Prop := if BadT c T then ys = [] else Sin c T ys
section
variable {w wr w' : World} {g r k : Nat} {c : Cs} {R : Rs}
end
end Go.Proofs.Ythcjbljkokflgaa
/- Split's maths: where each version stands last, among the first m items. -/
namespace Go.Proofs.Sp
/-- The last place of v among the first m of l: just what the map `last` holds behind m rounds. -/
def lastUp (l : List Int) : Nat → Int → Option Nat
  | 0, _ => none
  | m + 1, v => if l[m]? = some v then some m else lastUp l m v
theorem lastUp_at {l : List Int} {v : Int} {n : Nat} (h1 : l[n]? = some v) : ∀ {m : Nat}, n < m → (lastUp l m v = some n ↔ ∀ k, n < k → k < m → l[k]? ≠ some v)
  | 0, h => by omega
  | m + 1, h => by
    unfold lastUp
    by_cases hm : l[m]? = some v
    · rw [if_pos hm]
      by_cases he : m = n
      · subst he
        exact ⟨fun _ k h2 h3 => by omega, fun _ => rfl⟩
      · refine ⟨fun e => ?_, fun e => ?_⟩
        · cases e
          exact (he rfl).elim
        · exact (e m (by omega) (by omega) hm).elim
    · rw [if_neg hm]
      have hne : n ≠ m := fun e => hm (e ▸ h1)
      rw [lastUp_at h1 (show n < m by omega)]
      refine ⟨fun e k h2 h3 => ?_, fun e k h2 h3 => e k h2 (by omega)⟩
      by_cases hk : k = m
      · subst hk
        exact hm
      · exact e k h2 (by omega)
/-- Does v come again among l's items from n on, below m: what the document's inner loop has in `behind`. -/
def behind (l : List Int) (n : Nat) (v : Int) : Nat → Bool
  | 0 => false
  | d + 1 => behind l n v d || decide (l[n + d]? = some v)
theorem behind_iff {l : List Int} {n : Nat} {v : Int} : ∀ {d : Nat}, behind l n v d = false ↔ ∀ k, n ≤ k → k < n + d → l[k]? ≠ some v
  | 0 => ⟨fun _ k h1 h2 => by omega, fun _ => rfl⟩
  | d + 1 => by
    unfold behind
    rw [Bool.or_eq_false_iff, behind_iff, decide_eq_false_iff_not]
    refine ⟨fun ⟨h1, h2⟩ k h3 h4 => ?_, fun h => ⟨fun k h3 h4 => h k h3 (by omega), h _ (by omega) (by omega)⟩⟩
    by_cases hk : k = n + d
    · subst hk
      exact h2
    · exact h1 k h3 (by omega)
/-- The program's test, and the document's, at one n. -/
theorem split_at {l : List Int} {n : Nat} {v : Int} (h0 : n < l.length) (h1 : l[n]? = some v) : (lastUp l l.length v = some n) ↔ behind l (n + 1) v (l.length - (n + 1)) = false := by
  rw [lastUp_at h1 h0, behind_iff]
  exact ⟨fun h k h2 h3 => h k (by omega) (by omega), fun h k h2 h3 => h k (by omega) (by omega)⟩
/-- Where a list of `len` items is cut, from n on, d of them left, t being the test at n. -/
def cutAt (t : Nat → Bool) (len : Nat) : Nat → Nat → Nat
  | 0, _ => len
  | d + 1, n => if t n = true then n else cutAt t len d (n + 1)
end Go.Proofs.Sp
namespace Go.Proofs.Ythcjbljkokflgaa
open Go.RowKit
open Go.Lib
open Go.Proofs.Sp
set_option linter.unusedVariables false
set_option linter.unusedSimpArgs false
set_option maxRecDepth 100000
def tst (vs : List Int) (n : Nat) : Bool := !behind vs n (vs.getD (n - 1) 0) (vs.length - n)
def spl (vs : List Int) (most : Int) : Nat := cutAt (tst vs) vs.length (vs.length - (max most 1).toNat) (max most 1).toNat
end Go.Proofs.Ythcjbljkokflgaa
