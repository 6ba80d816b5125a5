/- Split, the program's. -/
import Derived.Test.YtpmgabeefppajaaGaq
import Derived.Test.YtpmgabeefppajaaGar
import Derived.Test.YtpmgabeefppajaaGas
import Derived.Test.YtpmgabeefppajaaGat
import Derived.Test.YtpmgabeefppajaaGau
import Derived.Test.YtpmgabeefppajaaGav
import Derived.Test.YtpmgabeefppajaaGaw
import Derived.Test.YtpmgabeefppajaaGap
import Derived.Test.YtpmgabeefppajaaGaf
import Derived.Test.YtpmgabeefppajaaGaa
import Derived.Test.YtpmgabeefppajaaProg
import Derived.Maps.Own
import Derived.Maps.OwnOps
import Derived.Maps.Views
import Derived.BigQuiet
import Derived.RegionTactic
import Derived.Deep.QuietTactic
set_option linter.unnecessarySimpa false
/- A collection: Apply. -/
namespace Go.Proofs.Ytpmgabeefppajaa
open Go.RowKit
open Go.Lib
set_option linter.unusedVariables false
set_option linter.unusedSimpArgs false
set_option maxRecDepth 100000
theorem apply_any {w : World} {B g : Nat} {c : Cs} (h : Cl w B g c) (hB : B ≤ w.heap.size) (hz : Cz c) (del : Bool) (uid card : ByteArray) (k v tok : Int) (hcs : card.size ≤ 1000000) :
    Calls Try.prog 23 #[.pointer (some ⟨g, 0, none⟩), .agg #[.bool del, .string uid, .string card, .int .i64 k, .int .i64 v], .int .i64 tok] w (ApP w B g (applyC c del uid card tok)) := by
  unfold applyC
  by_cases hno : noC c del uid tok = true
  · rw [if_pos hno]
    unfold noC at hno
    by_cases hla : tok < c.latest
    · exact ap_na h hB hz del uid card k v tok hcs hla
    · cases hth : (getL uid c.L).isSome with
      | true => rw [hth, decide_eq_false hla] at hno; cases del <;> simp at hno
      | false =>
        cases del with
        | true => exact ap_nb h hB hz uid card k v tok hcs hth hla
        | false =>
          rw [hth, decide_eq_false hla] at hno
          exact ap_nc h hB hz uid card k v tok hcs hth hla (by simpa using hno)
  · rw [if_neg hno]
    unfold noC at hno
    have hla : ¬ tok < c.latest := fun e => hno (by rw [decide_eq_true e]; rfl)
    cases hth : (getL uid c.L).isSome with
    | true =>
      cases del with
      | true =>
        by_cases hr : (c.ring.length : Int) < c.lmost
        · exact ap_dr h hB hz uid card k v tok hcs hth hla hr
        · exact ap_df h hB hz uid card k v tok hcs hth hla hr
      | false =>
        by_cases hr : (c.ring.length : Int) < c.lmost
        · exact ap_pr h hB hz uid card k v tok hcs hth hla hr
        · exact ap_pf h hB hz uid card k v tok hcs hth hla hr
    | false =>
      rw [hth, decide_eq_false hla] at hno
      cases del with
      | true => exact absurd rfl hno
      | false =>
        have hmo : ¬ c.most ≤ (c.L.length : Int) := by simpa using hno
        by_cases hr : (c.ring.length : Int) < c.lmost
        · exact ap_nr h hB hz uid card k v tok hcs hth hla hmo hr
        · exact ap_nf h hB hz uid card k v tok hcs hth hla hmo hr
end Go.Proofs.Ytpmgabeefppajaa
/- The collection and the reference's, side by side: maths. -/
namespace Go.Proofs.Ytpmgabeefppajaa
open Go.RowKit
open Go.Lib
set_option linter.unusedVariables false
set_option linter.unusedSimpArgs false
set_option maxRecDepth 100000
theorem plc_lt1 {u : ByteArray} {p : ByteArray × (Int × ByteArray)} {L : LK} (h : klt p.1 u = true) : plc u (p :: L) = plc u L + 1 := by
  unfold plc
  rw [List.filter_cons_of_pos (by exact h)]; rfl
theorem plc_ge0 {u : ByteArray} {p : ByteArray × (Int × ByteArray)} {L : LK} (hs : Srt (p :: L)) (h : klt p.1 u = false) : plc u (p :: L) = 0 := by
  unfold plc
  rw [List.filter_eq_nil_iff.2]
  · rfl
  intro a ha e
  rcases List.mem_cons.1 ha with rfl | ha
  · rw [h] at e; cases e
  · have := klt_trans ((List.pairwise_cons.1 hs).1 a ha) e; rw [h] at this; cases this
theorem get_gt {u : ByteArray} {p : ByteArray × (Int × ByteArray)} {L : LK} (hs : Srt (p :: L)) (h : klt p.1 u = false) : getL u L = none := getL_none fun a ha e => by
  subst e
  have := (List.pairwise_cons.1 hs).1 a ha
  rw [h] at this; cases this
theorem rRow_put : ∀ {L : LK}, Srt L → ∀ uid card tok, rRow L false uid card tok = insL uid (tok, card) L
  | [], _, uid, card, tok => rfl
  | p :: L, hs, uid, card, tok => by
    by_cases h : klt p.1 uid = true
    · have ih := rRow_put (List.pairwise_cons.1 hs).2 uid card tok
      have hne : uid ≠ p.1 := fun e => by rw [e, klt_irr] at h; cases h
      unfold rRow at ih ⊢
      rw [plc_lt1 h, getL_cons, if_neg hne]
      conv => rhs; unfold insL
      rw [if_neg (show ¬ klt uid p.1 = true by rw [klt_asym h]; decide), if_neg hne, ← ih]
      cases (getL uid L).isSome <;> simp
    · have h2 : klt p.1 uid = false := by simpa using h
      unfold rRow
      rw [plc_ge0 hs h2, getL_cons]
      by_cases e : uid = p.1
      · rw [if_pos e]; unfold insL; rw [if_neg (show ¬ klt uid p.1 = true by rw [← e, klt_irr]; decide), if_pos e]; simp
      · rw [if_neg e, get_gt hs h2]; unfold insL; rw [if_pos ((klt_total e).resolve_right (by rw [h2]; decide))]; simp
theorem rRow_del : ∀ {L : LK}, Srt L → ∀ uid card tok, (getL uid L).isSome = true → rRow L true uid card tok = delL uid L
  | [], _, uid, card, tok, h => by cases h
  | p :: L, hs, uid, card, tok, hth => by
    by_cases h : klt p.1 uid = true
    · have hne : uid ≠ p.1 := fun e => by rw [e, klt_irr] at h; cases h
      rw [getL_cons, if_neg hne] at hth
      have ih := rRow_del (List.pairwise_cons.1 hs).2 uid card tok hth
      unfold rRow at ih ⊢
      rw [plc_lt1 h, getL_cons, if_neg hne]
      unfold delL at ih ⊢
      rw [List.filter_cons_of_pos (by simpa using fun e : p.1 = uid => hne e.symm), ← ih]
      rw [hth]
      simp
    · have h2 : klt p.1 uid = false := by simpa using h
      unfold rRow
      rw [plc_ge0 hs h2, getL_cons]
      by_cases e : uid = p.1
      · rw [if_pos e]
        unfold delL
        rw [List.filter_cons_of_neg (by simp [e])]
        simp only [Option.isSome_some, if_true, Nat.zero_add, List.drop_succ_cons, List.drop_zero, List.take_zero, List.nil_append]
        refine Eq.symm (List.filter_eq_self.2 fun a ha => ?_)
        have := (List.pairwise_cons.1 hs).1 a ha
        refine decide_eq_true fun e2 => ?_
        rw [e2, e, klt_irr] at this; cases this
      · rw [getL_cons, if_neg e, get_gt hs h2] at hth; cases hth
def oldN (o : Option (Int × ByteArray)) : Nat := (o.getD (0, .empty)).2.size
theorem oldS_N (o : Option (Int × ByteArray)) : oldS o = (oldN o : Int) := rfl
theorem bytes_ins : ∀ {L : LK}, Srt L → ∀ (u : ByteArray) (x : Int × ByteArray), bytesL (insL u x L) + oldN (getL u L) = bytesL L + x.2.size
  | [], _, u, x => by show x.2.size + 0 + 0 = 0 + x.2.size; omega
  | p :: L, hs, u, x => by
    unfold insL
    rw [getL_cons]
    by_cases h : klt u p.1 = true
    · rw [if_pos h, if_neg (fun e => by rw [e, klt_irr] at h; cases h), getL_none (fun a ha e => by have := klt_trans h ((List.pairwise_cons.1 hs).1 a ha); rw [e, klt_irr] at this; cases this)]
      show x.2.size + (p.2.2.size + bytesL L) + 0 = p.2.2.size + bytesL L + x.2.size
      omega
    · rw [if_neg h]
      by_cases e : u = p.1
      · rw [if_pos e, if_pos e]
        show x.2.size + bytesL L + p.2.2.size = p.2.2.size + bytesL L + x.2.size
        omega
      · rw [if_neg e, if_neg e]
        have := bytes_ins (List.pairwise_cons.1 hs).2 u x
        show p.2.2.size + bytesL (insL u x L) + oldN (getL u L) = p.2.2.size + bytesL L + x.2.size
        omega
theorem bytes_del : ∀ {L : LK}, Srt L → ∀ (u : ByteArray), bytesL (delL u L) + oldN (getL u L) = bytesL L
  | [], _, u => rfl
  | p :: L, hs, u => by
    rw [getL_cons]
    unfold delL
    by_cases e : u = p.1
    · rw [List.filter_cons_of_neg (by simp [e]), if_pos e]
      have : List.filter (fun q => decide (q.1 ≠ u)) L = L := List.filter_eq_self.2 fun a ha => by
        have := (List.pairwise_cons.1 hs).1 a ha
        refine decide_eq_true fun e2 => ?_
        rw [e2, e, klt_irr] at this; cases this
      rw [this]
      show bytesL L + p.2.2.size = p.2.2.size + bytesL L
      omega
    · rw [List.filter_cons_of_pos (by simpa using fun e2 : p.1 = u => e e2.symm), if_neg e]
      have := bytes_del (List.pairwise_cons.1 hs).2 u
      show p.2.2.size + bytesL (delL u L) + oldN (getL u L) = p.2.2.size + bytesL L
      omega
theorem ord_full {F : Nat} {l : List Chg} (hF : F < l.length) (x : Chg) : (ord F l ++ [x]).drop 1 = ord ((F + 1) % l.length) (l.set F x) := by
  have e2 : l.set F x = (l.take F ++ [x]) ++ l.drop (F + 1) := by
    rw [List.set_eq_take_append_cons_drop, if_pos hF]; simp
  have hl : (l.take F ++ [x]).length = F + 1 := by simp; omega
  unfold ord
  rw [List.drop_eq_getElem_cons hF]
  simp only [List.cons_append, List.drop_succ_cons, List.drop_zero]
  by_cases h : F + 1 = l.length
  · rw [← h, Nat.mod_self, e2, List.drop_eq_nil_of_le (by omega)]; simp
  · rw [Nat.mod_eq_of_lt (by omega), e2, List.drop_left' hl, List.take_left' hl]; simp
theorem ord_head {F : Nat} {l : List Chg} (hF : F < l.length) (x d : Chg) : (ord F l ++ [x]).headD d = l.getD F d := by
  unfold ord
  rw [List.drop_eq_getElem_cons hF]
  simp [hF]
theorem ord_zero (l : List Chg) : ord 0 l = l := by unfold ord; simp
/-- The collection is the reference's. -/
structure Sim (c : Cs) (R : Rs) : Prop where
  L : R.L = c.L
  log : R.log = ord c.F c.ring
  cards : R.cards = c.most
  lim : R.lim = c.lmost
  la : R.latest = c.latest
  ho : R.horizon = c.horizon
  so : R.log.Pairwise fun a b => a.1 ≤ b.1
  sl : ∀ q ∈ R.log, q.1 ≤ R.latest
/-- A collection behind k writes. -/
structure Inv (k : Nat) (c : Cs) : Prop where
  srt : Srt c.L
  n : c.L.length ≤ k
  r : c.ring.length ≤ k
  F0 : (c.ring.length : Int) < c.lmost → c.F = 0
  F1 : ¬ (c.ring.length : Int) < c.lmost → c.F < c.ring.length
  lm : 1 ≤ c.lmost
  mo : 1 ≤ c.most
  by_ : c.bytes = (bytesL c.L : Int)
  kl : ∀ p ∈ c.L, p.1.size ≤ 1000 ∧ p.2.2.size ≤ 10000
  kr : ∀ q ∈ c.ring, q.2.size ≤ 1000
theorem sim_new (birth cards log : Int) : Sim (newC birth cards log) (rnewC birth cards log) := ⟨rfl, rfl, rfl, rfl, rfl, rfl, List.Pairwise.nil, fun q h => by cases h⟩
theorem inv_new (birth cards log : Int) : Inv 0 (newC birth cards log) := ⟨List.Pairwise.nil, Nat.le_refl _, Nat.le_refl _, fun _ => rfl, (fun h => absurd (show ((0 : Nat) : Int) < max log 1 by omega) h), (show 1 ≤ max log 1 by omega), (show 1 ≤ max cards 1 by omega), rfl, (fun p h => by cases h), (fun p h => by cases h)⟩
/-- What the row of cards comes to. -/
def putL (L : LK) (del : Bool) (uid card : ByteArray) (tok : Int) : LK := if del = true then delL uid L else insL uid (tok, card) L
theorem rRow_eq {L : LK} (hs : Srt L) (del : Bool) (uid card : ByteArray) (tok : Int) (hd : del = true → (getL uid L).isSome = true) : rRow L del uid card tok = putL L del uid card tok := by
  cases del with
  | true => exact rRow_del hs uid card tok (hd rfl)
  | false => exact rRow_put hs uid card tok
theorem sim_yes {k : Nat} {c : Cs} {R : Rs} (h : Sim c R) (hi : Inv k c) (del : Bool) (uid card : ByteArray) (tok : Int) (hla : ¬ tok < c.latest) (hd : del = true → (getL uid c.L).isSome = true) : Sim (yesC c del uid card tok) (rYes R del uid card tok) := by
  obtain ⟨L, F, rg, mo, lm, la, ho, by_⟩ := c
  obtain ⟨L', lg, cd, li, la', ho'⟩ := R
  obtain ⟨e1, e2, e3, e4, e5, e6, hso, hsl⟩ := h
  simp only at e1 e2 e3 e4 e5 e6 hso hsl hla
  subst e1 e2 e3 e4 e5 e6
  have g1 : (ord F rg ++ [(tok, uid)]).Pairwise fun a b => a.1 ≤ b.1 := List.pairwise_append.2 ⟨hso, List.pairwise_singleton _ _, fun a ha b hb => by
    rw [List.mem_singleton.1 hb]
    have := hsl a ha
    show a.1 ≤ tok
    omega⟩
  have g2 : ∀ q ∈ ord F rg ++ [(tok, uid)], q.1 ≤ tok := fun q hq => by
    rcases List.mem_append.1 hq with hq | hq
    · have := hsl q hq; omega
    · rw [List.mem_singleton.1 hq]; exact Int.le_refl _
  have hF0 := hi.F0
  have hF1 := hi.F1
  have hs := hi.srt
  simp only at hF0 hF1 hs hd
  have hr := rRow_eq hs del uid card tok hd
  unfold rYes yesC rLog rpush
  simp only
  by_cases hf : (rg.length : Int) < li
  · have hx : ¬ li < ((ord F rg).length : Int) + 1 := by rw [ord_len]; omega
    rw [if_pos hf, if_neg hx]
    have h0 := hF0 hf
    subst h0
    exact ⟨hr, by simp only [ord_zero], rfl, rfl, rfl, rfl, g1, g2⟩
  · have hx : li < ((ord F rg).length : Int) + 1 := by rw [ord_len]; omega
    rw [if_neg hf, if_pos hx]
    have h1 := hF1 hf
    exact ⟨hr, ord_full h1 _, rfl, rfl, rfl, by rw [ord_head h1], g1.sublist (List.drop_sublist _ _), fun q hq => g2 q (List.mem_of_mem_drop hq)⟩
theorem inv_yes {k : Nat} {c : Cs} (hi : Inv k c) (del : Bool) (uid card : ByteArray) (tok : Int) (hu : uid.size ≤ 1000) (hc : card.size ≤ 10000) : Inv (k + 1) (yesC c del uid card tok) := by
  obtain ⟨L, F, rg, mo, lm, la, ho, by_⟩ := c
  obtain ⟨hs, hn, hr, h0, h1, hlm, hmo, hby, hkl, hkr⟩ := hi
  simp only at hs hn hr h0 h1 hlm hmo hby hkl hkr
  have e1 : Srt (if del = true then delL uid L else insL uid (tok, card) L) := by split; exact hs.del _; exact hs.ins
  have e2 : (if del = true then delL uid L else insL uid (tok, card) L).length ≤ k + 1 := by
    split
    · have := delL_len (k := uid) hs; omega
    · rw [insL_len hs]; split <;> omega
  have e3 : (if del = true then by_ - oldS (getL uid L) else by_ - oldS (getL uid L) + (card.size : Int)) = (bytesL (if del = true then delL uid L else insL uid (tok, card) L) : Int) := by
    split
    · have := bytes_del hs uid; rw [oldS_N]; omega
    · have := bytes_ins hs uid (tok, card); rw [oldS_N]; simp only at this; omega
  have e4 : ∀ p ∈ (if del = true then delL uid L else insL uid (tok, card) L), p.1.size ≤ 1000 ∧ p.2.2.size ≤ 10000 := by
    intro p hp
    split at hp
    · exact hkl p (delL_sub.subset hp)
    · rcases insL_mem hp with rfl | hp
      · exact ⟨hu, hc⟩
      · exact hkl p hp
  unfold yesC rpush
  simp only
  by_cases hf : (rg.length : Int) < lm
  · rw [if_pos hf]
    refine ⟨e1, e2, by simp; omega, fun _ => h0 hf, fun h => ?_, hlm, hmo, e3, e4, fun q hq => ?_⟩
    · have := h0 hf; simp; omega
    · rcases List.mem_append.1 hq with hq | hq
      · exact hkr q hq
      · rw [List.mem_singleton.1 hq]; exact hu
  · rw [if_neg hf]
    have h2 := h1 hf
    refine ⟨e1, e2, by simp; omega, fun h => absurd h (by simp; omega), fun h => ?_, hlm, hmo, e3, e4, fun q hq => ?_⟩
    · simp only [List.length_set]; exact Nat.mod_lt _ (by omega)
    · rcases List.mem_or_eq_of_mem_set hq with hq | hq
      · exact hkr q hq
      · rw [hq]; exact hu
theorem Inv.up {k m : Nat} {c : Cs} (h : Inv k c) (hk : k ≤ m) : Inv m c := ⟨h.srt, Nat.le_trans h.n hk, Nat.le_trans h.r hk, h.F0, h.F1, h.lm, h.mo, h.by_, h.kl, h.kr⟩
theorem bytesL_le2 : ∀ (L : LK), (∀ p ∈ L, p.2.2.size ≤ 10000) → bytesL L ≤ L.length * 10000
  | [], h => by simp [bytesL]
  | p :: L, h => by
    have h1 := h p List.mem_cons_self
    have h2 := bytesL_le2 L (fun q hq => h q (List.mem_cons_of_mem _ hq))
    simp only [bytesL, List.length_cons]
    omega
theorem Inv.cz {k : Nat} {c : Cs} (h : Inv k c) (hk : k ≤ 10000) : Cz c :=
  have hb := bytesL_le2 c.L (fun p hp => (h.kl p hp).2)
  have hn := h.n
  have hr := h.r
  ⟨by omega, by omega, h.F1, by rw [h.by_]; omega, by rw [h.by_]; omega, fun u x hx => by have := (h.kl _ (getL_mem hx)).2; simp only at this; omega⟩
theorem Inv.fit {k : Nat} {c : Cs} (h : Inv k c) (hk : k ≤ 10000) : FitC c :=
  have hn := h.n
  have hr := h.r
  ⟨fun hp => by by_cases e : (c.ring.length : Int) < c.lmost; (rw [h.F0 e]; exact hp); exact h.F1 e, by omega, by omega, fun q hq => by have := h.kr q hq; omega, fun q hq => by have := (h.kl q hq).1; omega⟩
/-- What the reference does with a write. -/
def rNo (R : Rs) (del : Bool) (uid : ByteArray) (tok : Int) : Bool := decide (tok < R.latest) || (del && !(getL uid R.L).isSome) || (!del && !(getL uid R.L).isSome && decide (R.cards ≤ (R.L.length : Int)))
def rAp (R : Rs) (del : Bool) (uid card : ByteArray) (tok : Int) : Bool × Rs := if rNo R del uid tok = true then (false, R) else (true, rYes R del uid card tok)
theorem sim_no {c : Cs} {R : Rs} (h : Sim c R) (del : Bool) (uid : ByteArray) (tok : Int) : rNo R del uid tok = noC c del uid tok := by
  unfold rNo noC
  rw [h.la, h.L, h.cards]
theorem sim_apply {k : Nat} {c : Cs} {R : Rs} (h : Sim c R) (hi : Inv k c) (del : Bool) (uid card : ByteArray) (tok : Int) (hu : uid.size ≤ 1000) (hc : card.size ≤ 10000) : (rAp R del uid card tok).1 = (applyC c del uid card tok).1 ∧ Sim (applyC c del uid card tok).2 (rAp R del uid card tok).2 ∧ Inv (k + 1) (applyC c del uid card tok).2 := by
  unfold rAp applyC
  rw [sim_no h]
  by_cases hn : noC c del uid tok = true
  · rw [if_pos hn, if_pos hn]
    exact ⟨rfl, h, hi.up (by omega)⟩
  · rw [if_neg hn, if_neg hn]
    refine ⟨rfl, sim_yes h hi del uid card tok (fun e => hn (by unfold noC; rw [decide_eq_true e]; rfl)) (fun e => ?_), inv_yes hi del uid card tok hu hc⟩
    cases hth : (getL uid c.L).isSome with
    | true => rfl
    | false => exact absurd (by unfold noC; rw [e, hth]; simp) hn
end Go.Proofs.Ytpmgabeefppajaa
/- What the reference's Since tells, and that both tell the same (maths). -/
namespace Go.Proofs.Ytpmgabeefppajaa
open Go.RowKit
open Go.Lib
set_option linter.unusedVariables false
set_option linter.unusedSimpArgs false
set_option maxRecDepth 100000
theorem get_any {k : ByteArray} : ∀ (M : List (ByteArray × Int)), (getL k M).isSome = M.any fun p => decide (p.1 = k)
  | [] => rfl
  | p :: M => by
    rw [getL_cons, List.any_cons, ← get_any M]
    by_cases e : k = p.1
    · rw [if_pos e, decide_eq_true e.symm]; rfl
    · rw [if_neg e, decide_eq_false (fun h => e h.symm), Bool.false_or]
theorem chg_any (L : LK) (k : ByteArray) (M : List (ByteArray × Int)) : (chgL L M).any (fun t => decide (t.u = k)) = (getL k M).isSome := by
  rw [get_any]
  unfold chgL
  rw [List.any_map]
  congr 1
  funext p
  show decide ((chgI L p).u = k) = _
  rw [chgI_u]
theorem sin_ul {k : Nat} {c : Cs} (hi : Inv k c) (T : Int) : (sin0 c T).Pairwise Ul := by
  unfold sin0
  split
  · exact ul_live hi.srt
  · exact ul_chg _ (lastL_srt _ _)
end Go.Proofs.Ytpmgabeefppajaa
/- Since of both, side by side. -/
namespace Go.Proofs.Ytpmgabeefppajaa
open Go.RowKit
open Go.Lib
set_option linter.unusedVariables false
set_option linter.unusedSimpArgs false
set_option maxRecDepth 100000
theorem sin0_len {k : Nat} {c : Cs} (hi : Inv k c) (T : Int) : (sin0 c T).length ≤ k := by
  unfold sin0
  split
  · rw [itsK_len]; exact hi.n
  · rw [chgL_len]
    unfold lastL
    exact Nat.le_trans (accL_len _) (Nat.le_trans (List.takeWhile_sublist _).length_le (by rw [List.length_reverse, ord_len]; exact hi.r))
section
variable {w wr w' : World} {g r k : Nat} {c : Cs} {R : Rs}
end
theorem its_nil (w : World) : Its w none 0 0 0 0 [] := ⟨rfl, Nat.le_refl _, fun h => absurd h (by omega), fun j t h => by simp at h⟩
end Go.Proofs.Ytpmgabeefppajaa
/- Since at any token, of both; rows that a law spoils. -/
namespace Go.Proofs.Ytpmgabeefppajaa
open Go.RowKit
open Go.Lib
set_option linter.unusedVariables false
set_option linter.unusedSimpArgs false
set_option maxRecDepth 100000
def BadT (c : Cs) (T : Int) : Prop := T ≠ 0 ∧ (T < c.horizon ∨ c.latest < T)
theorem badT_no {c : Cs} {T : Int} (h : ¬ BadT c T) : T = 0 ∨ (c.horizon ≤ T ∧ T ≤ c.latest) := by
  by_cases h0 : T = 0
  · exact .inl h0
  · exact .inr ⟨Int.not_lt.1 fun e => h ⟨h0, .inl e⟩, Int.not_lt.1 fun e => h ⟨h0, .inr e⟩⟩
open Classical in
noncomputable def errC (c : Cs) (T : Int) : Int := if BadT c T then 8 else 0
open Classical in
def TellC (c : Cs) (T : Int) (ys : List It) : Prop := if BadT c T then ys = [] else Sin c T ys
section
variable {w wr w' : World} {g r k : Nat} {c : Cs} {R : Rs}
end
end Go.Proofs.Ytpmgabeefppajaa
/- Split's maths: where each version stands last, among the first m items. -/
namespace Go.Proofs.Sp
/-- The last place of v among the first m of l: just what the map `last` holds behind m rounds. -/
def lastUp (l : List Int) : Nat → Int → Option Nat
  | 0, _ => none
  | m + 1, v => if l[m]? = some v then some m else lastUp l m v
theorem lastUp_at {l : List Int} {v : Int} {n : Nat} (h1 : l[n]? = some v) : ∀ {m : Nat}, n < m → (lastUp l m v = some n ↔ ∀ k, n < k → k < m → l[k]? ≠ some v)
  | 0, h => by omega
  | m + 1, h => by
    unfold lastUp
    by_cases hm : l[m]? = some v
    · rw [if_pos hm]
      by_cases he : m = n
      · subst he
        exact ⟨fun _ k h2 h3 => by omega, fun _ => rfl⟩
      · refine ⟨fun e => ?_, fun e => ?_⟩
        · cases e
          exact (he rfl).elim
        · exact (e m (by omega) (by omega) hm).elim
    · rw [if_neg hm]
      have hne : n ≠ m := fun e => hm (e ▸ h1)
      rw [lastUp_at h1 (show n < m by omega)]
      refine ⟨fun e k h2 h3 => ?_, fun e k h2 h3 => e k h2 (by omega)⟩
      by_cases hk : k = m
      · subst hk
        exact hm
      · exact e k h2 (by omega)
/-- Does v come again among l's items from n on, below m: what the document's inner loop has in `behind`. -/
def behind (l : List Int) (n : Nat) (v : Int) : Nat → Bool
  | 0 => false
  | d + 1 => behind l n v d || decide (l[n + d]? = some v)
theorem behind_iff {l : List Int} {n : Nat} {v : Int} : ∀ {d : Nat}, behind l n v d = false ↔ ∀ k, n ≤ k → k < n + d → l[k]? ≠ some v
  | 0 => ⟨fun _ k h1 h2 => by omega, fun _ => rfl⟩
  | d + 1 => by
    unfold behind
    rw [Bool.or_eq_false_iff, behind_iff, decide_eq_false_iff_not]
    refine ⟨fun ⟨h1, h2⟩ k h3 h4 => ?_, fun h => ⟨fun k h3 h4 => h k h3 (by omega), h _ (by omega) (by omega)⟩⟩
    by_cases hk : k = n + d
    · subst hk
      exact h2
    · exact h1 k h3 (by omega)
/-- The program's test, and the document's, at one n. -/
theorem split_at {l : List Int} {n : Nat} {v : Int} (h0 : n < l.length) (h1 : l[n]? = some v) : (lastUp l l.length v = some n) ↔ behind l (n + 1) v (l.length - (n + 1)) = false := by
  rw [lastUp_at h1 h0, behind_iff]
  exact ⟨fun h k h2 h3 => h k (by omega) (by omega), fun h k h2 h3 => h k (by omega) (by omega)⟩
/-- Where a list of `len` items is cut, from n on, d of them left, t being the test at n. -/
def cutAt (t : Nat → Bool) (len : Nat) : Nat → Nat → Nat
  | 0, _ => len
  | d + 1, n => if t n = true then n else cutAt t len d (n + 1)
end Go.Proofs.Sp
/- Split, the document's. -/
namespace Go.Proofs.Ytpmgabeefppajaa
open Go.RowKit
open Go.Lib
open Go.Proofs.Sp
set_option linter.unusedVariables false
set_option linter.unusedSimpArgs false
set_option maxRecDepth 100000
def tst (vs : List Int) (n : Nat) : Bool := !behind vs n (vs.getD (n - 1) 0) (vs.length - n)
def spl (vs : List Int) (most : Int) : Nat := cutAt (tst vs) vs.length (vs.length - (max most 1).toNat) (max most 1).toNat
end Go.Proofs.Ytpmgabeefppajaa
/- Maps with int64 keys that hold whatever values: what stands where, how many. -/
namespace Go.Proofs.Ytpmgabeefppajaa
open Go.RowKit Go.Maps
open Go.WideElems (rg Fit)
open Go.ChangeMaps Go.MapKept
set_option linter.unusedVariables false
set_option maxRecDepth 20000
abbrev VD := DataW Value
/-- A value reads as itself. -/
def RV (v : Value) : Option (VD × List MemPlace) := some (.held v, [])
theorem K3 : Keyed Try.prog 2 := int_keyed Try.underlying2
def wf (x : Int) : Prop := (Lit.int .i64 x).wf = true
theorem key3 {x : Int} (h : wf x) : keyOf Try.prog 2 (.int .i64 x) = some (.int .i64 x) := keyOf_int_mk Try.underlying2 h
/-- What lies at x. -/
def vl (D : VD) (x : Int) : Option Value :=
  match D.atKey (.int .i64 x) .nil with
  | .held v => some v
  | _ => none
theorem key_lit (x : Int) : WideAt.IsKeyLit (.int .i64 x) := by simp [WideAt.IsKeyLit]
theorem vl_put {D : VD} (h : IsMap D) (x : Int) (v : Value) : vl (D.put (.int .i64 x) (.held v)) x = some v := by unfold vl; rw [atKey_put_same h (key_lit x)]
theorem vl_put_ne {D : VD} {x y : Int} (hne : y ≠ x) (d : VD) : vl (D.put (.int .i64 x) d) y = vl D y := by unfold vl; rw [atKey_put_other (by simpa using hne)]
/-- A map's datum: no key twice; what is there is held. -/
structure Vd (D : VD) : Prop where
  tidy : Tidy D
  has : ∀ x : Int, Maps.has D (.int .i64 x) = (vl D x).isSome
theorem Vd.empty : Vd (.map []) := ⟨tidy_empty, fun x => rfl⟩
theorem Vd.put {D : VD} (h : Vd D) (x : Int) (v : Value) : Vd (D.put (.int .i64 x) (.held v)) :=
  ⟨h.tidy.put (key_lit x) _, fun y => by
    by_cases e : y = x
    · subst e
      rw [has_put_same h.tidy.isMap (key_lit y), vl_put h.tidy.isMap]; rfl
    · rw [has_put_other (by simpa using e), vl_put_ne e, h.has]⟩
theorem Vd.size_put {D : VD} (h : Vd D) (x : Int) (v : Value) : Maps.size (D.put (.int .i64 x) (.held v)) = if (vl D x).isSome then Maps.size D else Maps.size D + 1 := by
  rw [Maps.size_put h.tidy, h.has]
def Vm (w : World) (b : Nat) (D : VD) : Prop := ∃ es clock, w.heap[b]? = some (.map es clock) ∧ Fit Try.prog 2 RV es clock ∧ D = .map ((es.toList.map (rg Try.prog 2 RV)).foldr DataW.insert []) ∧ Vd D
theorem Vm.lt {w : World} {b : Nat} {D : VD} (h : Vm w b D) : b < w.heap.size := by
  obtain ⟨es, clock, hb, _⟩ := h
  exact (Array.getElem?_eq_some_iff.1 hb).1
theorem Vm.vd {w : World} {b : Nat} {D : VD} (h : Vm w b D) : Vd D := by
  obtain ⟨es, clock, hb, _, _, h⟩ := h
  exact h
theorem Vm.off {w w' : World} {b : Nat} {D : VD} (h : Vm w b D) (hb : w'.heap[b]? = w.heap[b]?) : Vm w' b D := by
  obtain ⟨es, clock, h1, h2, h3, h4⟩ := h
  exact ⟨es, clock, hb.trans h1, h2, h3, h4⟩
theorem Vm.made (w : World) : Vm (w.alloc (.map #[] 0)) w.heap.size (.map []) :=
  ⟨#[], 0, (MapKept.heap_alloc w _).1, ⟨by simp, stamped_empty 0, by simp⟩, rfl, Vd.empty⟩
theorem Vm.size_eq {D : VD} {es : Array MapEntry} (h : D = .map ((es.toList.map (rg Try.prog 2 RV)).foldr DataW.insert [])) : Maps.size D = es.size := by
  subst h
  show List.length _ = _
  rw [length_sorted]
  simp
theorem Vm.look {w : World} {b : Nat} {D : VD} {t e : TypeId} (h : Vm w b D) (ht : Try.prog.underlying t = some (.map 2 e)) {z : Value} (hz : (zeroValue e).run Try.prog w = .ok z w) {x : Int} (hx : wf x) :
    (Instr.lookup t (.map (some b)) (.int .i64 x) true).run Try.prog w = .ok (.tuple #[(vl D x).getD z, .bool (vl D x).isSome]) w ∧ (Instr.lookup t (.map (some b)) (.int .i64 x) false).run Try.prog w = .ok ((vl D x).getD z) w := by
  obtain ⟨es, clock, hb, F, rfl, _⟩ := h
  rcases fit_look true K3 ht hz hb F (key3 hx) with ⟨h1, h0, h2⟩ | ⟨e0, y, m1, m2, h1, h2, h3, _⟩
  · have ha : vl (DataW.map ((es.toList.map (rg Try.prog 2 RV)).foldr DataW.insert [])) x = none := by unfold vl; rw [h2]
    rw [ha]
    refine ⟨h1, ?_⟩
    rcases fit_look false K3 ht hz hb F (key3 hx) with ⟨g1, _, _⟩ | ⟨e1, y1, n1, n2, _⟩
    · exact g1
    · exact absurd n2 (h0 e1 n1)
  · cases h2
    have ha : vl (DataW.map ((es.toList.map (rg Try.prog 2 RV)).foldr DataW.insert [])) x = some e0.val := by unfold vl; rw [h3]
    rw [ha]
    refine ⟨h1, ?_⟩
    rcases fit_look false K3 ht hz hb F (key3 hx) with ⟨g1, g2, _⟩ | ⟨e1, y1, n1, n2, g1, g2, g3, _⟩
    · exact absurd m2 (g2 e0 m1)
    · cases g2
      have e : (DataW.held e1.val : VD) = .held e0.val := (g3 .nil).symm.trans (h3 .nil)
      injection e with e
      rw [← e]
      exact g1
theorem grown_set {w : World} {b : Nat} {es : Array MapEntry} {clock : Nat} {o2 : Obj} (hb : w.heap[b]? = some (.map es clock)) : w.grownBy (setBlock w b o2) (some b) :=
  ⟨rfl, rfl, rfl, by simp [setBlock], fun j hj hne => heap_setBlock_other hb _ (fun e => hne (by rw [e]))⟩
theorem Vm.upd {w : World} {b : Nat} {D : VD} {t e : TypeId} (h : Vm w b D) (hs : Maps.size D ≤ 1000000) (ht : Try.prog.underlying t = some (.map 2 e)) {x : Int} (hx : wf x) (v : Value) :
    ∃ w2, (Instr.mapUpdate t (.map (some b)) (.int .i64 x) v).run Try.prog w = .ok () w2 ∧ Vm w2 b (D.put (.int .i64 x) (.held v)) ∧ w.grownBy w2 (some b) ∧ w2.heap.size = w.heap.size := by
  obtain ⟨es, clock, hb, F, hD, hT⟩ := h
  have hsz := Vm.size_eq hD
  obtain ⟨es', clock', hrun, F', hput, _⟩ := fit_store (R' := RV) K3 ht hb F (by unfold maxLen; omega) (fun _ _ _ _ h => h) (key3 hx) (rfl : RV v = some (.held v, []))
  refine ⟨_, hrun, ⟨es', clock', heap_setBlock_same hb _, F', ?_, hT.put x v⟩, grown_set hb, by simp [setBlock]⟩
  rw [hD]
  show DataW.map _ = DataW.map _
  exact congrArg DataW.map hput.symm
end Go.Proofs.Ytpmgabeefppajaa
namespace Go.Proofs.Ytpmgabeefppajaa
open Go.RowKit Go.Maps
open Go.Lib
open Go.Proofs.Sp
set_option linter.unusedVariables false
set_option linter.unusedSimpArgs false
set_option maxRecDepth 100000
theorem zeroI (w : World) : (zeroValue 3).run Try.prog w = .ok (.int .i64 0) w := by kernel_rfl
theorem run_mm (n : Int) (w : World) : (Instr.makeMap 128 (some (.int .i64 n))).run Try.prog w = .ok (.map (some w.heap.size)) (w.alloc (.map #[] 0)) := by
  simp [Instr.makeMap, run_underlying Try.underlying128, asInt, asIntOf, Result.andThen]
/-- What the map holds behind q items. -/
structure Lst (D : VD) (vs : List Int) (q : Nat) : Prop where
  at_ : ∀ v, vl D v = (lastUp vs q v).map (fun j => Value.int .i64 (j : Int))
  size : Maps.size D ≤ q
theorem Lst.empty (vs : List Int) : Lst (.map []) vs 0 := ⟨fun v => rfl, Nat.le_refl _⟩
theorem Lst.put {D : VD} {vs : List Int} {q : Nat} (h : Lst D vs q) (hd : Vd D) {x : Int} (hx : vs[q]? = some x) : Lst (D.put (.int .i64 x) (.held (.int .i64 (q : Int)))) vs (q + 1) :=
  ⟨fun v => by
    by_cases e : v = x
    · subst e
      rw [vl_put hd.tidy.isMap]
      unfold lastUp
      rw [if_pos hx]
      rfl
    · rw [vl_put_ne e, h.at_]
      conv => rhs; unfold lastUp
      rw [if_neg (by rw [hx]; exact fun h => e (Option.some.inj h).symm)], by
    have := h.size
    rw [hd.size_put]
    split <;> omega⟩
theorem lastUp_some {vs : List Int} {v : Int} {n : Nat} (h : vs[n]? = some v) : ∀ {m : Nat}, n < m → ∃ j, lastUp vs m v = some j
  | 0, hn => by omega
  | m + 1, hn => by
    unfold lastUp
    by_cases hm : vs[m]? = some v
    · exact ⟨m, by rw [if_pos hm]⟩
    · rw [if_neg hm]
      refine lastUp_some h ?_
      by_cases e : n = m
      · subst e; exact absurd h hm
      · omega
theorem tst_last {vs : List Int} {n : Nat} {v : Int} (h : vs[n]? = some v) : tst vs (n + 1) = decide (lastUp vs vs.length v = some n) := by
  have hn := (List.getElem?_eq_some_iff.1 h).1
  unfold tst
  rw [Nat.add_sub_cancel, List.getD_eq_getElem?_getD, h]
  have := split_at hn h
  show (!behind vs (n + 1) v (vs.length - (n + 1))) = _
  cases hb : behind vs (n + 1) v (vs.length - (n + 1)) with
  | true => rw [hb] at this; rw [decide_eq_false (fun e => by have := this.1 e; cases this)]; rfl
  | false => rw [decide_eq_true (this.2 hb)]; rfl
set_option maxHeartbeats 8000000 in
theorem split_any {w : World} {A : Option Addr} {len cap b off : Nat} {xs : List It} (h : Its w A len cap b off xs) (hn : len ≤ 100000) (hw : ∀ t ∈ xs, wf t.v) (most : Int) : Calls Try.prog 44 #[.slice A len cap, .int .i64 most] w fun e w' => e = .returned (.int .i64 (spl (xs.map It.v) most : Int)) ∧ Below w.heap.size w w' := by
  have HI := Lib.hid h
  have HW := Lib.hid hw
  have hlen := h.hlen
  have hlc := h.le
  have hnI : (len : Int) ≤ 100000 := by omega
  obtain ⟨vs, hvs⟩ : ∃ vs, xs.map It.v = vs := ⟨_, rfl⟩
  have HV := Lib.hid (show ∀ (j : Nat) (t : It), xs[j]? = some t → vs[j]? = some t.v from fun j t ht => by rw [← hvs, List.getElem?_map, ht]; rfl)
  have HVL := Lib.hid (show vs.length = len by rw [← hvs, List.length_map, hlen])
  rw [hvs]
  obtain ⟨r, hr⟩ : ∃ r, spl vs most = r := ⟨_, rfl⟩
  have HR := Lib.hid hr
  rw [hr]
  clear hr h hvs hw
  obtain ⟨z0, hz0⟩ : ∃ z, max most 1 = z := ⟨_, rfl⟩
  have hz1 : 1 ≤ z0 := by omega
  have HR0 := Lib.hid (show cutAt (tst vs) len (len - z0.toNat) z0.toNat = r by have := HR.out; unfold spl at this; rw [HVL.out, hz0] at this; exact this)
  have HZ := Lib.hid (show z0 = if most < 1 then 1 else most by split <;> omega)
  clear hz0
  go_enter Try.func44, Try.ntmps44
  have hmm := run_mm (len : Int)
  go_wp2
  clear hmm
  have HWge := Lib.hid (Nat.le_refl w.heap.size)
  go_loopw [14] (fun i wr => ∃ (q : Nat) (D : VD), q ≤ len ∧ i = .int .i64 (q : Int) ∧ Lst D vs q ∧ Vm wr w.heap.size D ∧ Below w.heap.size w wr) (fun i _ => len - (intOf i).toNat)
  case atStart => exact ⟨0, _, Nat.zero_le _, rfl, Lst.empty _, Vm.made w, (Below.refl _ _).alloc (Nat.le_refl _) _⟩
  case round =>
    obtain ⟨q, D, hq, rfl, hse, hvm, hB⟩ := hrel
    have HSE := Lib.hid hse
    have HVM := Lib.hid hvm
    have HB := Lib.hid hB
    clear hse hvm hB
    by_cases hql : q < len
    · obtain ⟨t, ht⟩ : ∃ t, xs[q]? = some t := ⟨xs[q]'(by rw [HI.out.hlen]; exact hql), List.getElem?_eq_getElem _⟩
      obtain ⟨rfl, hbl⟩ := HI.out.addr (by omega)
      obtain ⟨c0, c1, c2, c3⟩ := (HI.out.below HB.out (fun _ => hbl)).cell q t ht
      have HTV := Lib.hid (HV.out q t ht)
      have HTW := Lib.hid (HW.out t (List.mem_of_getElem? ht))
      have hqI : (q : Int) < (len : Int) := by omega
      obtain ⟨tu, tv, tx, tc⟩ := t
      simp only at c0 c1 c2 c3
      clear ht
      obtain ⟨n, hn2⟩ : ∃ n, wr.heap.size = n := ⟨_, rfl⟩
      obtain ⟨W1, hW1⟩ : ∃ W1, wr.alloc (.cells #[.string { data := #[] }, .int .i64 0, .bool false, .string { data := #[] }] 41) = W1 := ⟨_, rfl⟩
      have HB1 := Lib.hid (show Below wr.heap.size wr W1 from hW1 ▸ (Below.refl _ wr).alloc (Nat.le_refl _) _)
      have HX1 := Lib.hid (show Blk W1 n 41 #[.string .empty, .int .i64 0, .bool false, .string .empty] from hn2 ▸ hW1 ▸ Blk.new wr 41 _)
      have y0 := HX1.out.cell 0
      have y1 := HX1.out.cell 1
      have y2 := HX1.out.cell 2
      have y3 := HX1.out.cell 3
      have f0 := HX1.out.frozen 0
      have f1 := HX1.out.frozen 1
      have f2 := HX1.out.frozen 2
      have f3 := HX1.out.frozen 3
      obtain ⟨W2, hW2⟩ : ∃ W2, (((W1.setCell ⟨n, 0, none⟩ (.string tu)).setCell ⟨n, 1, none⟩ (.int .i64 tv)).setCell ⟨n, 2, none⟩ (.bool tx)).setCell ⟨n, 3, none⟩ (.string tc) = W2 := ⟨_, rfl⟩
      have HX2 := Lib.hid (show Blk W2 n 41 #[.string tu, .int .i64 tv, .bool tx, .string tc] from hW2 ▸ ((((HX1.out.set_ 0 _).set_ 1 _).set_ 2 _).set_ 3 _))
      have HB2 := Lib.hid (show Below n wr W2 from hW2 ▸ ((((((HB1.out.mono (Nat.le_of_eq hn2.symm)).setCell (p := ⟨n, 0, none⟩) (Nat.le_refl _) _).setCell (p := ⟨n, 1, none⟩) (Nat.le_refl _) _).setCell (p := ⟨n, 2, none⟩) (Nat.le_refl _) _).setCell (p := ⟨n, 3, none⟩) (Nat.le_refl _) _)))
      have HM2 := Lib.hid (HVM.out.off (HB2.out.block _ (by have := HVM.out.lt; omega)))
      obtain ⟨W4, hrun, hv4, hg4, _⟩ := HM2.out.upd (by have := HSE.out.size; omega) Try.underlying128 (x := tv) HTW.out (.int .i64 (q : Int))
      have HV4 := Lib.hid hv4
      have HBa := Lib.hid (HB.out.trans (HB2.out.mono (by rw [← hn2]; exact HB.out.size)))
      have HB4 := Lib.hid (HBa.out.grown hg4 HBa.out.size (fun j e => by cases e; exact Nat.le_refl _))
      have z1 := HX2.out.cell 1
      clear hv4 hg4
      go_wp2
      go_roundw
      case rel => exact ⟨q + 1, _, by omega, by go_num, HSE.out.put HM2.out.vd HTV.out, HV4.out, HB4.out⟩
      case measure => simp [intOf]; omega
    · obtain rfl : q = len := by omega
      have HS0 := Lib.hid (show Lst D vs vs.length from HVL.out ▸ HSE.out)
      by_cases hm : most < 1
      · obtain rfl : z0 = 1 := by rw [HZ.out, if_pos hm]
        go_wp2
        go_loopw [8] (fun kk wr => ∃ z : Int, 1 ≤ z ∧ kk = .int .i64 z ∧ cutAt (tst vs) q (q - z.toNat) z.toNat = r ∧ Vm wr w.heap.size D ∧ Below w.heap.size w wr) (fun kk _ => ((q : Int) - intOf kk).toNat)
        case atStart => exact ⟨_, hz1, (by first | rfl | (congr 1 <;> omega)), HR0.out, HVM.out, HB.out⟩
        case round =>
          obtain ⟨z, hz, rfl, hc, hv, hB⟩ := hrel
          have HC := Lib.hid hc
          have HV2 := Lib.hid hv
          have HB2 := Lib.hid hB
          clear hc hv hB
          by_cases hzl : z < (q : Int)
          · obtain ⟨n, rfl⟩ : ∃ n : Nat, z = (n : Int) + 1 := ⟨(z - 1).toNat, by omega⟩
            have hnl : n + 1 < q := by omega
            obtain ⟨t0, ht0⟩ : ∃ t, xs[n]? = some t := ⟨xs[n]'(by rw [HI.out.hlen]; omega), List.getElem?_eq_getElem _⟩
            obtain ⟨rfl, hbl⟩ := HI.out.addr (by omega)
            obtain ⟨_, c1, _, _⟩ := (HI.out.below HB2.out (fun _ => hbl)).cell n t0 ht0
            have HST := Lib.hid (show cutAt (tst vs) q (q - (n + 1)) (n + 1) = r by have := HC.out; rw [show ((n : Int) + 1).toNat = n + 1 by omega] at this; exact this)
            obtain ⟨j, hj⟩ := lastUp_some (HV.out n t0 ht0) (m := vs.length) (by rw [HVL.out]; omega)
            have hlk := (HV2.out.look Try.underlying128 (zeroI _) (HW.out t0 (List.mem_of_getElem? ht0))).2
            rw [HS0.out.at_, hj] at hlk
            try simp only [Option.map_some, Option.getD_some] at hlk
            have HTS := Lib.hid (tst_last (HV.out n t0 ht0))
            rw [hj] at HTS
            obtain ⟨uv, hu⟩ : ∃ u, t0.v = u := ⟨_, rfl⟩
            rw [hu] at c1 hlk
            clear ht0 hu hz hj
            by_cases he : j = n
            · have he2 : ((j : Int) == (n : Int)) = true := by rw [he]; simp
              have HN := Lib.hid (show r = n + 1 by
                have h1 := HST.out
                rw [show q - (n + 1) = (q - (n + 1 + 1)) + 1 by omega] at h1
                unfold cutAt at h1
                rw [HTS.out, he] at h1
                simpa using h1.symm)
              clear he
              go_wp2
              go_ret
              exact ⟨by rw [HN.out]; first | rfl | simp, HB2.out⟩
            · have he2 : ((j : Int) == (n : Int)) = false := beq_eq_false_iff_ne.2 (by omega)
              have HN := Lib.hid (show cutAt (tst vs) q (q - (n + 1 + 1)) (n + 1 + 1) = r by
                have h1 := HST.out
                rw [show q - (n + 1) = (q - (n + 1 + 1)) + 1 by omega] at h1
                unfold cutAt at h1
                rw [HTS.out, if_neg (by simpa using he)] at h1
                exact h1)
              clear he
              go_wp2
              go_roundw
              case rel => exact ⟨(n : Int) + 1 + 1, by omega, by go_num, by rw [show ((n : Int) + 1 + 1).toNat = n + 1 + 1 by omega]; exact HN.out, HV2.out, HB2.out⟩
              case measure => simp [intOf]; omega
          · have HN := Lib.hid (show r = q by have h1 := HC.out; rw [show q - z.toNat = 0 by omega] at h1; exact h1.symm)
            go_wp2
            go_ret
            exact ⟨by rw [HN.out]; rfl, HB2.out⟩
      · obtain rfl : z0 = most := by rw [HZ.out, if_neg hm]
        go_wp2
        go_loopw [8] (fun kk wr => ∃ z : Int, 1 ≤ z ∧ kk = .int .i64 z ∧ cutAt (tst vs) q (q - z.toNat) z.toNat = r ∧ Vm wr w.heap.size D ∧ Below w.heap.size w wr) (fun kk _ => ((q : Int) - intOf kk).toNat)
        case atStart => exact ⟨_, hz1, (by first | rfl | (congr 1 <;> omega)), HR0.out, HVM.out, HB.out⟩
        case round =>
          obtain ⟨z, hz, rfl, hc, hv, hB⟩ := hrel
          have HC := Lib.hid hc
          have HV2 := Lib.hid hv
          have HB2 := Lib.hid hB
          clear hc hv hB
          by_cases hzl : z < (q : Int)
          · obtain ⟨n, rfl⟩ : ∃ n : Nat, z = (n : Int) + 1 := ⟨(z - 1).toNat, by omega⟩
            have hnl : n + 1 < q := by omega
            obtain ⟨t0, ht0⟩ : ∃ t, xs[n]? = some t := ⟨xs[n]'(by rw [HI.out.hlen]; omega), List.getElem?_eq_getElem _⟩
            obtain ⟨rfl, hbl⟩ := HI.out.addr (by omega)
            obtain ⟨_, c1, _, _⟩ := (HI.out.below HB2.out (fun _ => hbl)).cell n t0 ht0
            have HST := Lib.hid (show cutAt (tst vs) q (q - (n + 1)) (n + 1) = r by have := HC.out; rw [show ((n : Int) + 1).toNat = n + 1 by omega] at this; exact this)
            obtain ⟨j, hj⟩ := lastUp_some (HV.out n t0 ht0) (m := vs.length) (by rw [HVL.out]; omega)
            have hlk := (HV2.out.look Try.underlying128 (zeroI _) (HW.out t0 (List.mem_of_getElem? ht0))).2
            rw [HS0.out.at_, hj] at hlk
            try simp only [Option.map_some, Option.getD_some] at hlk
            have HTS := Lib.hid (tst_last (HV.out n t0 ht0))
            rw [hj] at HTS
            obtain ⟨uv, hu⟩ : ∃ u, t0.v = u := ⟨_, rfl⟩
            rw [hu] at c1 hlk
            clear ht0 hu hz hj
            by_cases he : j = n
            · have he2 : ((j : Int) == (n : Int)) = true := by rw [he]; simp
              have HN := Lib.hid (show r = n + 1 by
                have h1 := HST.out
                rw [show q - (n + 1) = (q - (n + 1 + 1)) + 1 by omega] at h1
                unfold cutAt at h1
                rw [HTS.out, he] at h1
                simpa using h1.symm)
              clear he
              go_wp2
              go_ret
              exact ⟨by rw [HN.out]; first | rfl | simp, HB2.out⟩
            · have he2 : ((j : Int) == (n : Int)) = false := beq_eq_false_iff_ne.2 (by omega)
              have HN := Lib.hid (show cutAt (tst vs) q (q - (n + 1 + 1)) (n + 1 + 1) = r by
                have h1 := HST.out
                rw [show q - (n + 1) = (q - (n + 1 + 1)) + 1 by omega] at h1
                unfold cutAt at h1
                rw [HTS.out, if_neg (by simpa using he)] at h1
                exact h1)
              clear he
              go_wp2
              go_roundw
              case rel => exact ⟨(n : Int) + 1 + 1, by omega, by go_num, by rw [show ((n : Int) + 1 + 1).toNat = n + 1 + 1 by omega]; exact HN.out, HV2.out, HB2.out⟩
              case measure => simp [intOf]; omega
          · have HN := Lib.hid (show r = q by have h1 := HC.out; rw [show q - z.toNat = 0 by omega] at h1; exact h1.symm)
            go_wp2
            go_ret
            exact ⟨by rw [HN.out]; rfl, HB2.out⟩
end Go.Proofs.Ytpmgabeefppajaa
