/- The acts and the writes that a law is given: where they lie, are they light. -/
import Derived.Test.YtpmgabeefppajaaGax
import Derived.Lib.SliceRun
import Derived.Deep.RegionHeld3
import Derived.Deep.DrawnRows
import Derived.Test.YtpmgabeefppajaaGaa
set_option linter.unnecessarySimpa false
/- Pages: numbers that fit, where a list is cut, Clone (maths, and a small walk). -/
namespace Go.Proofs.Ytpmgabeefppajaa
open Go.RowKit
open Go.Lib
open Go.Proofs.Sp
set_option linter.unusedVariables false
set_option linter.unusedSimpArgs false
set_option maxRecDepth 100000
/-- Its tokens fit. -/
structure Wfc (c : Cs) : Prop where
  l : ∀ p ∈ c.L, wf p.2.1
  r : ∀ q ∈ c.ring, wf q.1
theorem wfc_new (birth cards log : Int) : Wfc (newC birth cards log) := ⟨(fun p h => by cases h), (fun q h => by cases h)⟩
theorem wfc_ap {c : Cs} (h : Wfc c) (del : Bool) (uid card : ByteArray) (tok : Int) (ht : wf tok) : Wfc (applyC c del uid card tok).2 := by
  unfold applyC
  by_cases hn : noC c del uid tok = true
  · rw [if_pos hn]; exact h
  · rw [if_neg hn]
    obtain ⟨L, F, rg, mo, lm, la, ho, by_⟩ := c
    obtain ⟨hl, hr⟩ := h
    simp only at hl hr
    have e1 : ∀ p ∈ (if del = true then delL uid L else insL uid (tok, card) L), wf p.2.1 := by
      intro p hp
      split at hp
      · exact hl p (delL_sub.subset hp)
      · rcases insL_mem hp with rfl | hp
        · exact ht
        · exact hl p hp
    unfold yesC rpush
    simp only
    by_cases hf : (rg.length : Int) < lm
    · rw [if_pos hf]
      refine ⟨e1, fun q hq => ?_⟩
      rcases List.mem_append.1 hq with hq | hq
      · exact hr q hq
      · rw [List.mem_singleton.1 hq]; exact ht
    · rw [if_neg hf]
      refine ⟨e1, fun q hq => ?_⟩
      rcases List.mem_or_eq_of_mem_set hq with hq | hq
      · exact hr q hq
      · rw [hq]; exact ht
theorem told_wf {c : Cs} (h : Wfc c) {T : Int} {ys : List It} (hs : Sin c T ys) : ∀ t ∈ ys, wf t.v := by
  intro t ht
  have hm := hs.1.mem_iff.1 ht
  unfold sin0 at hm
  by_cases h0 : T = 0
  · rw [if_pos h0] at hm
    unfold itsK at hm
    obtain ⟨p, hp, rfl⟩ := List.mem_map.1 hm
    exact h.l p hp
  · rw [if_neg h0] at hm
    unfold chgL at hm
    obtain ⟨p, hp, rfl⟩ := List.mem_map.1 hm
    have hr : wf p.2 := by
      have hq := List.mem_reverse.1 (lastL_mem hp)
      unfold ord at hq
      rcases List.mem_append.1 hq with hq | hq
      · exact h.r _ (List.mem_of_mem_drop hq)
      · exact h.r _ (List.mem_of_mem_take hq)
    unfold chgI
    cases hy : getL p.1 c.L with
    | none => exact hr
    | some y => exact h.l _ (getL_mem hy)
theorem cutAt_in {t : Nat → Bool} {len : Nat} : ∀ {d n : Nat}, cutAt t len d n = len ∨ (n ≤ cutAt t len d n ∧ cutAt t len d n < n + d)
  | 0, _ => .inl rfl
  | d + 1, n => by
    unfold cutAt
    split
    · exact .inr ⟨Nat.le_refl _, by omega⟩
    · rcases cutAt_in (t := t) (len := len) (d := d) (n := n + 1) with h | h
      · exact .inl h
      · exact .inr ⟨by omega, by omega⟩
theorem spl_in (vs : List Int) (most : Int) : spl vs most = vs.length ∨ (0 < spl vs most ∧ spl vs most < vs.length) := by
  unfold spl
  rcases cutAt_in (t := tst vs) (len := vs.length) (d := vs.length - (max most 1).toNat) (n := (max most 1).toNat) with h | h
  · exact .inl h
  · exact .inr ⟨by omega, by omega⟩
open Classical in
/-- A page. -/
noncomputable def pgO (c : Cs) (T most : Int) (ys : List It) : List It × (Int × Bool) :=
  if BadT c T then ([], (0, false))
  else if T = 0 ∨ spl (ys.map It.v) most = ys.length then (ys, (c.latest, false))
  else (ys.take (spl (ys.map It.v) most), ((ys.map It.v).getD (spl (ys.map It.v) most - 1) 0, true))
theorem results_tmp4 {fn : Func} {t u v x : Tmp} (h : fn.results = #[.tmp t, .tmp u, .tmp v, .tmp x]) (tmps : Array Value) (P : Program) (w : World) :
    (results fn tmps).run P w = .ok (.tuple #[tmps.getD t undef, tmps.getD u undef, tmps.getD v undef, tmps.getD x undef]) w := by
  simp [results, h]
set_option maxHeartbeats 4000000 in
theorem clone_any {w : World} {B len n cap : Nat} {A : Option Addr} {ys : List It} (h : w.ownsRow B 41 4 (.slice A len cap) len (itsC ys)) (hn : n ≤ len) (h0 : 0 < n) (hb : len ≤ 100000) : Calls Try.prog 45 #[.slice A n cap] w fun e w' => ∃ U, e = .returned U ∧ w'.ownsRow w.heap.size 41 4 U n (itsC (ys.take n)) ∧ Below w.heap.size w w' := by
  obtain ⟨i0, hi, hz0, hz1, hz2⟩ := info_parts infoIt
  obtain ⟨hcap, gl, hsk⟩ := sk_of h
  have hyl : (itsC ys).length = len * 4 := h.1
  obtain ⟨w1, hw1⟩ : ∃ w1, w.alloc (.cells #[] 41) = w1 := ⟨_, rfl⟩
  have HB1 := Lib.hid (show Below w.heap.size w w1 from hw1 ▸ (Below.refl _ w).alloc (Nat.le_refl _) _)
  have HO1 := Lib.hid (show w1.ownsRow w.heap.size 41 4 (.slice (some ⟨w.heap.size, 0, none⟩) 0 0) 0 [] from hw1 ▸ World.ownsRow_lit w #[] 0 (Nat.le_refl _) (by decide) rfl)
  have HTO := Lib.hid ((hsk.on HB1.out).to 4 (by decide) n (by rw [hyl]; omega))
  have HIT := Lib.hid (itsC_take ys n)
  obtain ⟨rfl, -⟩ := hsk 0 _ (List.getElem?_eq_getElem (by rw [hyl]; omega))
  have HM := Lib.hid (show 0 + n ≤ maxLen ∧ (0 + n) * 48 ≤ 140737488355328 from ⟨by unfold maxLen; omega, by omega⟩)
  have HLE := Lib.hid (show ((itsC ys).take (n * 4)).length = n * 4 by rw [List.length_take, hyl]; omega)
  have q40 : ∀ (w : World) (a : Option Addr) (n c n' c' : Nat), Sem.run Try.prog (binOp .eql 28 (.slice a n c) (.slice none n' c')) w = .ok (.bool a.isNone) w := fun w a n c n' c' => Lib.run_eql_slice_nil w 28 41 a n c n' c' Try.underlying28
  clear h hsk hyl
  go_enter Try.func45, Try.ntmps45
  go_wp2_with (first
    | (at_builtin
       refine wpList_apps _ rfl _ _ 28 41 rfl i0 _ 4 48 Try.underlying28 hi hz0 hz1 hz2 rfl (by decide) w.heap.size _ 0 [] rfl HO1.out _ n cap ((itsC ys).take (n * 4)) rfl HLE.out HTO.out (fun u hu => itsC_one _ u (List.mem_of_mem_take hu)) HM.out.1 HM.out.2 HB1.out.size ?_
       intro v' w2 hown hgr
       have HO2 := Lib.hid hown
       have HB2 := Lib.hid (HB1.out.grown hgr HB1.out.size (fun k e => (HO1.out.lt k e).1))
       clear hown hgr)
    | fail)
  go_ret
  exact ⟨v', rfl, by have := HO2.out; rw [Nat.zero_add, List.nil_append, ← HIT.out] at this; exact this, HB2.out⟩
end Go.Proofs.Ytpmgabeefppajaa
/- Page of both. -/
namespace Go.Proofs.Ytpmgabeefppajaa
open Go.RowKit
open Go.Lib
open Go.Proofs.Sp
set_option linter.unusedVariables false
set_option linter.unusedSimpArgs false
set_option maxRecDepth 100000
theorem pg_bad {c : Cs} {T : Int} (h : BadT c T) (most : Int) : errC c T = 8 ∧ TellC c T [] ∧ pgO c T most [] = ([], (0, false)) := ⟨if_pos h, (by unfold TellC; rw [if_pos h]), if_pos h⟩
theorem pg_err {c : Cs} {T : Int} (h : ¬ BadT c T) : errC c T = 0 := if_neg h
theorem pg_tell {c : Cs} {T : Int} (h : ¬ BadT c T) {ys : List It} (hs : Sin c T ys) : TellC c T ys := by unfold TellC; rw [if_neg h]; exact hs
theorem pg_full {c : Cs} {T most : Int} (h : ¬ BadT c T) {ys : List It} (h2 : T = 0 ∨ spl (ys.map It.v) most = ys.length) : pgO c T most ys = (ys, (c.latest, false)) := by
  unfold pgO
  rw [if_neg h, if_pos h2]
theorem pg_cut {c : Cs} {T most : Int} (h : ¬ BadT c T) {ys : List It} (h1 : T ≠ 0) {n p : Nat} (h2 : spl (ys.map It.v) most = n) (h3 : n ≠ ys.length) (hp : n = p + 1) {t : It} (ht : ys[p]? = some t) : pgO c T most ys = (ys.take n, (t.v, true)) := by
  unfold pgO
  rw [if_neg h, if_neg (fun e => by
    rcases e with e | e
    · exact h1 e
    · exact h3 (h2 ▸ e)), h2, List.getD_eq_getElem?_getD, List.getElem?_map, hp, Nat.add_sub_cancel, ht]
  rfl
theorem Cl_lt {w : World} {B g : Nat} {c : Cs} (h : Cl w B g c) : g < w.heap.size := by
  obtain ⟨_, _, e, _⟩ := h
  exact e.lt
section
variable {w wr w' : World} {g r k : Nat} {c : Cs} {R : Rs}
end
end Go.Proofs.Ytpmgabeefppajaa
/- What Since tells of each card (maths). -/
namespace Go.Proofs.Ytpmgabeefppajaa
open Go.RowKit
open Go.Lib
set_option linter.unusedVariables false
set_option linter.unusedSimpArgs false
set_option maxRecDepth 100000
/-- A card that was written while the log remembers has its last change's token. -/
def KV (log : List Chg) (L : LK) : Prop := ∀ u x y, log.reverse.find? (fun c => decide (c.2 = u)) = some x → getL u L = some y → y.1 = x.1
theorem find_prefix {p : Chg → Bool} {A B : List Chg} {x : Chg} (h : A.find? p = some x) : (A ++ B).find? p = some x := by rw [List.find?_append, h]; rfl
theorem KV.drop {log : List Chg} {L : LK} (h : KV log L) : KV (log.drop 1) L := fun u x y h1 h2 => by
  cases log with
  | nil => exact h u x y h1 h2
  | cons c log =>
    refine h u x y ?_ h2
    rw [List.reverse_cons]
    exact find_prefix h1
theorem putL_get {L : LK} (hs : Srt L) (del : Bool) (uid card : ByteArray) (tok : Int) (u : ByteArray) : getL u (putL L del uid card tok) = if u = uid then (if del = true then none else some (tok, card)) else getL u L := by
  unfold putL
  cases del with
  | true => rw [if_pos rfl, getL_del]; rfl
  | false => rw [if_neg (by decide), getL_ins hs]; rfl
theorem KV.add {log : List Chg} {L : LK} (h : KV log L) (hs : Srt L) (del : Bool) (uid card : ByteArray) (tok : Int) : KV (log ++ [(tok, uid)]) (putL L del uid card tok) := fun u x y h1 h2 => by
  rw [List.reverse_append, List.reverse_singleton, List.singleton_append] at h1
  rw [putL_get hs] at h2
  by_cases e : u = uid
  · rw [List.find?_cons_of_pos (by simp [e])] at h1
    cases h1
    rw [if_pos e] at h2
    cases del with
    | true => cases h2
    | false => cases h2; rfl
  · rw [List.find?_cons_of_neg (by simpa using fun e2 => e e2.symm)] at h1
    rw [if_neg e] at h2
    exact h u x y h1 h2
theorem kv_ap {k : Nat} {c : Cs} {R : Rs} (h : Sim c R) (hi : Inv k c) (hk : KV R.log R.L) (del : Bool) (uid card : ByteArray) (tok : Int) : KV (rAp R del uid card tok).2.log (rAp R del uid card tok).2.L := by
  unfold rAp
  by_cases hn : rNo R del uid tok = true
  · rw [if_pos hn]; exact hk
  · rw [if_neg hn]
    have hs : Srt R.L := by rw [h.L]; exact hi.srt
    have hr := rRow_eq hs del uid card tok (fun e => by
      cases hth : (getL uid R.L).isSome with
      | true => rfl
      | false => exact absurd (by unfold rNo; rw [e, hth]; simp) hn)
    have ha := hk.add hs del uid card tok
    rw [← hr] at ha
    show KV (rLog { R with L := rRow R.L del uid card tok } (tok, uid)).log (rLog { R with L := rRow R.L del uid card tok } (tok, uid)).L
    unfold rLog
    split
    · exact ha.drop
    · exact ha
theorem kv_new (birth cards log : Int) : KV (rnewC birth cards log).log (rnewC birth cards log).L := fun u x y h => by cases h
theorem acc_find : ∀ (l : List Chg) (M : List (ByteArray × Int)), Srt M → ∀ p, p ∈ l.foldl accS M → p ∈ M ∨ (getL p.1 M = none ∧ l.find? (fun c => decide (c.2 = p.1)) = some (p.2, p.1))
  | [], M, _, p, h => .inl h
  | c :: l, M, hs, p, h => by
    rw [List.foldl_cons] at h
    by_cases e : (getL c.2 M).isSome = true
    · have em : accS M c = M := by unfold accS; rw [if_pos e]
      rw [em] at h
      rcases acc_find l M hs p h with h | ⟨h1, h2⟩
      · exact .inl h
      · refine .inr ⟨h1, ?_⟩
        rw [List.find?_cons_of_neg (by
          simp only [decide_eq_true_eq]
          intro e2
          rw [e2, h1] at e; cases e)]
        exact h2
    · have em : accS M c = insL c.2 c.1 M := by unfold accS; rw [if_neg e]
      rw [em] at h
      rcases acc_find l _ hs.ins p h with h | ⟨h1, h2⟩
      · rcases insL_mem h with rfl | h
        · refine .inr ⟨by simpa using e, ?_⟩
          rw [List.find?_cons_of_pos (by simp)]
        · exact .inl h
      · rw [getL_ins hs] at h1
        by_cases e2 : p.1 = c.2
        · rw [if_pos e2] at h1; cases h1
        · rw [if_neg e2] at h1
          refine .inr ⟨h1, ?_⟩
          rw [List.find?_cons_of_neg (by simpa using fun e3 => e2 e3.symm)]
          exact h2
theorem last_find {T : Int} {l : List Chg} {p : ByteArray × Int} (h : p ∈ lastL T l) : l.find? (fun c => decide (c.2 = p.1)) = some (p.2, p.1) ∧ T < p.2 := by
  unfold lastL accL at h
  rcases acc_find _ [] List.Pairwise.nil p h with h | ⟨_, h⟩
  · cases h
  · refine ⟨?_, ?_⟩
    · have := find_prefix (B := l.dropWhile fun c => decide (T < c.1)) h
      rwa [List.takeWhile_append_dropWhile] at this
    · have hm := List.mem_of_find?_eq_some h
      have h2 : ∀ (l : List Chg) (c : Chg), c ∈ l.takeWhile (fun c => decide (T < c.1)) → T < c.1 := by
        intro l
        induction l with
        | nil => intro c hc; cases hc
        | cons d l ih =>
          intro c hc
          by_cases e : T < d.1
          · rw [List.takeWhile_cons_of_pos (p := fun c : Chg => decide (T < c.1)) (decide_eq_true e)] at hc
            rcases List.mem_cons.1 hc with rfl | hc
            · exact e
            · exact ih c hc
          · rw [List.takeWhile_cons_of_neg (p := fun c : Chg => decide (T < c.1)) (by simpa using e)] at hc; cases hc
      exact h2 l _ hm
/-- What is told of one card. -/
structure ToldY (c : Cs) (T : Int) (t : It) (y : Int × ByteArray) : Prop where
  x : t.x = false
  v : t.v = y.1
  c : t.c = y.2
structure ToldN (c : Cs) (T : Int) (t : It) : Prop where
  x : t.x = true
  c : t.c = .empty
theorem srt_get : ∀ {L : LK}, Srt L → ∀ p, p ∈ L → getL p.1 L = some p.2
  | [], _, p, h => by cases h
  | q :: L, hs, p, h => by
    obtain ⟨h1, h2⟩ := List.pairwise_cons.1 hs
    rw [getL_cons]
    rcases List.mem_cons.1 h with rfl | h
    · rw [if_pos rfl]
    · rw [if_neg (fun e => by have := h1 p h; rw [e, klt_irr] at this; cases this)]
      exact srt_get h2 p h
theorem told {k : Nat} {c : Cs} {R : Rs} (hs : Sim c R) (hi : Inv k c) (hk : KV R.log R.L) {T : Int} {ys : List It} (h : Sin c T ys) {t : It} (ht : t ∈ ys) :
    (∀ y, getL t.u c.L = some y → ToldY c T t y) ∧ (getL t.u c.L = none → ToldN c T t) ∧ (T ≠ 0 → T < t.v) := by
  have hm := h.1.mem_iff.1 ht
  unfold sin0 at hm
  rw [hs.log, hs.L] at hk
  by_cases h0 : T = 0
  · rw [if_pos h0] at hm
    unfold itsK at hm
    obtain ⟨p, hp, rfl⟩ := List.mem_map.1 hm
    have hg := srt_get hi.srt p hp
    refine ⟨fun y hy => ?_, fun hn => ?_, fun h => absurd h0 h⟩
    · have hy' : getL p.1 c.L = some y := hy
      rw [hg] at hy'
      cases hy'
      exact ⟨rfl, rfl, rfl⟩
    · have hn' : getL p.1 c.L = none := hn
      rw [hg] at hn'; cases hn'
  · rw [if_neg h0] at hm
    unfold chgL at hm
    obtain ⟨p, hp, rfl⟩ := List.mem_map.1 hm
    obtain ⟨hf, hT⟩ := last_find hp
    rw [chgI_u]
    refine ⟨fun y hy => ?_, fun hn => ?_, fun _ => ?_⟩
    · unfold chgI; rw [hy]; exact ⟨rfl, rfl, rfl⟩
    · unfold chgI; rw [hn]; exact ⟨rfl, rfl⟩
    · unfold chgI
      cases hy : getL p.1 c.L with
      | none => exact hT
      | some y =>
        have := hk p.1 _ y hf hy
        show T < y.1
        rw [this]; exact hT
end Go.Proofs.Ytpmgabeefppajaa
/- A copy that goes page by page: what it agrees with (maths). -/
namespace Go.Proofs.Ytpmgabeefppajaa
open Go.RowKit
open Go.Lib
open Go.Proofs.Sp
set_option linter.unusedVariables false
set_option linter.unusedSimpArgs false
set_option maxRecDepth 100000
abbrev HF := ByteArray → Option (Int × ByteArray)
/-- The token of the last change of a card that the log has. -/
def lastT (log : List Chg) (u : ByteArray) : Option Int := (log.reverse.find? fun c => decide (c.2 = u)).map (·.1)
theorem lastT_snoc (log : List Chg) (x : Chg) (u : ByteArray) : lastT (log ++ [x]) u = if x.2 = u then some x.1 else lastT log u := by
  unfold lastT
  rw [List.reverse_append, List.reverse_singleton, List.singleton_append]
  by_cases e : x.2 = u
  · rw [List.find?_cons_of_pos (by simp [e]), if_pos e]; rfl
  · rw [List.find?_cons_of_neg (by simpa using e), if_neg e]
theorem lastT_cons (log : List Chg) (x : Chg) (u : ByteArray) : lastT (x :: log) u = (lastT log u).or (if x.2 = u then some x.1 else none) := by
  unfold lastT
  rw [List.reverse_cons, List.find?_append]
  cases log.reverse.find? fun c => decide (c.2 = u) with
  | some y => rfl
  | none =>
    by_cases e : x.2 = u
    · rw [List.find?_cons_of_pos (by simp [e]), if_pos e]; rfl
    · rw [List.find?_cons_of_neg (by simpa using e), if_neg e]; rfl
/-- What a copy at token N has of all that was not changed since. -/
def Agr (log : List Chg) (hor : Int) (L : LK) (N : Int) (H : HF) : Prop := hor ≤ N → ∀ u, (∀ t, lastT log u = some t → t ≤ N) → H u = getL u L
theorem agr_add {log : List Chg} {hor N : Int} {L : LK} {H : HF} (h : Agr log hor L N H) (hs : Srt L) (del : Bool) (uid card : ByteArray) {tok : Int} (ht : N < tok) : Agr (log ++ [(tok, uid)]) hor (putL L del uid card tok) N H := fun hh u hu => by
  rw [lastT_snoc] at hu
  by_cases e : uid = u
  · have := hu tok (by rw [if_pos e]); omega
  · rw [h hh u (fun t ht => hu t (by rw [if_neg e]; exact ht)), putL_get hs, if_neg (fun e2 => e e2.symm)]
theorem agr_drop {x : Chg} {log : List Chg} {hor N : Int} {L : LK} {H : HF} (h : Agr (x :: log) hor L N H) : Agr log (max hor x.1) L N H := fun hh u hu => by
  refine h (by omega) u (fun t ht => ?_)
  rw [lastT_cons] at ht
  cases hl : lastT log u with
  | some s => rw [hl] at ht; cases ht; exact hu _ hl
  | none =>
    rw [hl] at ht
    by_cases e : x.2 = u
    · rw [if_pos e] at ht; cases ht; omega
    · rw [if_neg e] at ht; cases ht
/-- A write leaves the agreement. -/
theorem agr_ap {k : Nat} {c : Cs} {R : Rs} (hs : Sim c R) (hi : Inv k c) {N : Int} {H : HF} (h : Agr R.log R.horizon R.L N H) (del : Bool) (uid card : ByteArray) (tok : Int) (ht : N < tok) : Agr (rAp R del uid card tok).2.log (rAp R del uid card tok).2.horizon (rAp R del uid card tok).2.L N H := by
  unfold rAp
  by_cases hn : rNo R del uid tok = true
  · rw [if_pos hn]; exact h
  · rw [if_neg hn]
    have hsr : Srt R.L := by rw [hs.L]; exact hi.srt
    have hr := rRow_eq hsr del uid card tok (fun e => by
      cases hth : (getL uid R.L).isSome with
      | true => rfl
      | false => exact absurd (by unfold rNo; rw [e, hth]; simp) hn)
    have ha := agr_add h hsr del uid card ht
    rw [← hr] at ha
    show Agr (rLog { R with L := rRow R.L del uid card tok } (tok, uid)).log (rLog { R with L := rRow R.L del uid card tok } (tok, uid)).horizon (rLog { R with L := rRow R.L del uid card tok } (tok, uid)).L N H
    unfold rLog
    split
    · show Agr ((R.log ++ [(tok, uid)]).drop 1) (max R.horizon ((R.log ++ [(tok, uid)]).headD (0, .empty)).1) (rRow R.L del uid card tok) N H
      cases hl : R.log with
      | nil =>
        rw [hl] at ha
        exact agr_drop ha
      | cons x log =>
        rw [hl] at ha
        exact agr_drop ha
    · exact ha
/-- One item folded into what a copy has. -/
def foldH (H : HF) (t : It) : HF := fun u => if u = t.u then (if t.x = true then none else some (t.v, t.c)) else H u
theorem foldH_on {L : LK} (u : ByteArray) : ∀ (zs : List It) (H : HF), (∀ t ∈ zs, (if t.x = true then none else some (t.v, t.c)) = getL t.u L) → (zs.foldl foldH H) u = if (zs.any fun t => decide (t.u = u)) = true then getL u L else H u
  | [], H, _ => rfl
  | z :: zs, H, h => by
    rw [List.foldl_cons, foldH_on u zs _ (fun t ht => h t (List.mem_cons_of_mem _ ht)), List.any_cons]
    by_cases e : (zs.any fun t => decide (t.u = u)) = true
    · rw [if_pos e, e, Bool.or_true, if_pos rfl]
    · rw [if_neg e, Bool.eq_false_iff.2 e, Bool.or_false]
      unfold foldH
      by_cases e2 : z.u = u
      · rw [if_pos e2.symm, if_pos (decide_eq_true e2), ← e2]
        exact h z List.mem_cons_self
      · rw [if_neg (fun e3 => e2 e3.symm), if_neg (by simpa using e2)]
theorem acc_has : ∀ (l : List Chg) (M : List (ByteArray × Int)), Srt M → ∀ u, (getL u M).isSome = true ∨ (∃ c ∈ l, c.2 = u) → (getL u (l.foldl accS M)).isSome = true
  | [], M, _, u, h => by
    rcases h with h | ⟨c, hc, _⟩
    · exact h
    · cases hc
  | c :: l, M, hs, u, h => by
    have hs2 : Srt (accS M c) := by unfold accS; split; exact hs; exact hs.ins
    refine acc_has l _ hs2 u ?_
    rcases h with h | ⟨d, hd, hu⟩
    · left
      unfold accS
      split
      · exact h
      · rw [getL_ins hs]; split; rfl; exact h
    · rcases List.mem_cons.1 hd with rfl | hd
      · left
        unfold accS
        split
        · rw [← hu]; assumption
        · rw [getL_ins hs, if_pos hu.symm]; rfl
      · exact .inr ⟨d, hd, hu⟩
theorem take_find {T : Int} : ∀ {l : List Chg} {p : Chg → Bool} {x : Chg}, (l.Pairwise fun a b => b.1 ≤ a.1) → l.find? p = some x → T < x.1 → x ∈ l.takeWhile fun c => decide (T < c.1)
  | [], p, x, _, h, _ => by cases h
  | c :: l, p, x, hd, h, hT => by
    obtain ⟨h1, h2⟩ := List.pairwise_cons.1 hd
    by_cases e : p c = true
    · rw [List.find?_cons_of_pos e] at h
      cases h
      rw [List.takeWhile_cons_of_pos (p := fun c : Chg => decide (T < c.1)) (decide_eq_true hT)]
      exact List.mem_cons_self
    · rw [List.find?_cons_of_neg e] at h
      have hm := List.mem_of_find?_eq_some h
      have := h1 x hm
      rw [List.takeWhile_cons_of_pos (p := fun c : Chg => decide (T < c.1)) (decide_eq_true (show T < c.1 by omega))]
      exact List.mem_cons_of_mem _ (take_find h2 h hT)
/-- What Since tells of the changes: each has its last token, and whoever was changed is told. -/
theorem sin_last {k : Nat} {c : Cs} {R : Rs} (hs : Sim c R) (hi : Inv k c) (hk : KV R.log R.L) {N : Int} (h0 : N ≠ 0) {ys : List It} (h : Sin c N ys) : (∀ t ∈ ys, lastT R.log t.u = some t.v ∧ N < t.v ∧ (if t.x = true then none else some (t.v, t.c)) = getL t.u c.L) ∧ ∀ u t, lastT R.log u = some t → N < t → (ys.any fun i => decide (i.u = u)) = true := by
  refine ⟨fun t ht => ?_, fun u t hl hN => ?_⟩
  · have ht2 := told hs hi hk h ht
    have hm := h.1.mem_iff.1 ht
    unfold sin0 at hm
    rw [if_neg h0] at hm
    unfold chgL at hm
    obtain ⟨p, hp, rfl⟩ := List.mem_map.1 hm
    obtain ⟨hf, hT⟩ := last_find hp
    rw [chgI_u] at ht2 ⊢
    have hl : lastT R.log p.1 = some p.2 := by
      unfold lastT
      rw [hs.log, hf]; rfl
    cases hy : getL p.1 c.L with
    | none =>
      have hx := ht2.2.1 hy
      have hv : (chgI c.L p).v = p.2 := by unfold chgI; rw [hy]
      rw [hv, hx.x, if_pos rfl]
      exact ⟨hl, hT, rfl⟩
    | some y =>
      have hx := ht2.1 y hy
      have hv : y.1 = p.2 := hk p.1 _ y (by rw [hs.log]; exact hf) (by rw [hs.L]; exact hy)
      rw [hx.x, hx.v, hx.c, hv, if_neg (by decide)]
      exact ⟨hl, hT, by rw [← hv]⟩
  · rw [h.1.any_eq]
    unfold sin0
    rw [if_neg h0, chg_any]
    unfold lastT at hl
    cases hf : R.log.reverse.find? fun c => decide (c.2 = u) with
    | none => rw [hf] at hl; cases hl
    | some x =>
      rw [hf] at hl
      cases hl
      have hd : R.log.reverse.Pairwise fun a b => b.1 ≤ a.1 := List.pairwise_reverse.2 hs.so
      have hm := take_find hd hf hN
      have hu : x.2 = u := by have := List.find?_some hf; simpa using this
      unfold lastL accL
      rw [← hs.log]
      exact acc_has _ [] List.Pairwise.nil u (.inr ⟨x, hm, hu⟩)
theorem cutAt_tst {t : Nat → Bool} {len : Nat} : ∀ {d n : Nat}, cutAt t len d n = len ∨ t (cutAt t len d n) = true
  | 0, _ => .inl rfl
  | d + 1, n => by
    unfold cutAt
    split
    · rename_i h; exact .inr h
    · exact cutAt_tst
/-- Behind the cut no item has the version ahead of it. -/
theorem spl_ne {vs : List Int} {most : Int} {n : Nat} (h : spl vs most = n) (h1 : n < vs.length) {k : Nat} (hk : n ≤ k) {v : Int} (hv : vs[k]? = some v) : v ≠ vs.getD (n - 1) 0 := by
  unfold spl at h
  rcases cutAt_tst (t := tst vs) (len := vs.length) (d := vs.length - (max most 1).toNat) (n := (max most 1).toNat) with e | e
  · rw [e] at h; omega
  · rw [h] at e
    unfold tst at e
    have hb : behind vs n (vs.getD (n - 1) 0) (vs.length - n) = false := by simpa using e
    have hkl := (List.getElem?_eq_some_iff.1 hv).1
    intro e2
    exact behind_iff.1 hb k hk (by omega) (by rw [hv, e2])
end Go.Proofs.Ytpmgabeefppajaa
/- A copy that goes page by page: what a page leaves (maths). -/
namespace Go.Proofs.Ytpmgabeefppajaa
open Go.RowKit
open Go.Lib
open Go.Proofs.Sp
set_option linter.unusedVariables false
set_option linter.unusedSimpArgs false
set_option maxRecDepth 100000
/-- All that was told, folded: what the collection has. -/
theorem page_full {k : Nat} {c : Cs} {R : Rs} (hs : Sim c R) (hi : Inv k c) (hk : KV R.log R.L) {N : Int} (h0 : N ≠ 0) {ys : List It} (h : Sin c N ys) {H : HF} (ha : Agr R.log R.horizon R.L N H) (hh : R.horizon ≤ N) : ∀ u, (ys.foldl foldH H) u = getL u c.L := fun u => by
  obtain ⟨s1, s2⟩ := sin_last hs hi hk h0 h
  rw [foldH_on u ys H (fun t ht => (s1 t ht).2.2)]
  by_cases e : (ys.any fun t => decide (t.u = u)) = true
  · rw [if_pos e]
  · rw [if_neg e, ← hs.L]
    refine ha hh u (fun t ht => ?_)
    by_cases ht2 : N < t
    · exact absurd (s2 u t ht ht2) e
    · omega
theorem sin_mono {c : Cs} {N : Int} {ys : List It} (h : Sin c N ys) {i j : Nat} {a b : It} (hij : i ≤ j) (ha : ys[i]? = some a) (hb : ys[j]? = some b) : a.v ≤ b.v := by
  by_cases e : i = j
  · subst e; rw [ha] at hb; cases hb; exact Int.le_refl _
  · obtain ⟨h1, rfl⟩ := List.getElem?_eq_some_iff.1 ha
    obtain ⟨h2, rfl⟩ := List.getElem?_eq_some_iff.1 hb
    have := List.pairwise_iff_getElem.1 h.2 i j h1 h2 (by omega)
    rcases this with h3 | ⟨h3, _⟩ <;> omega
/-- A first part of it, folded: the copy agrees at the token of its end. -/
theorem page_cut {k : Nat} {c : Cs} {R : Rs} (hs : Sim c R) (hi : Inv k c) (hk : KV R.log R.L) {N : Int} (h0 : N ≠ 0) {ys : List It} (h : Sin c N ys) {H : HF} (ha : Agr R.log R.horizon R.L N H) (hh : R.horizon ≤ N) {most : Int} {n p : Nat} (hn : spl (ys.map It.v) most = n) (hnl : n < ys.length) (hp : n = p + 1) {t : It} (ht : ys[p]? = some t) : Agr R.log R.horizon R.L t.v ((ys.take n).foldl foldH H) ∧ N < t.v ∧ t.v ≤ R.latest := by
  obtain ⟨s1, s2⟩ := sin_last hs hi hk h0 h
  have htm := s1 t (List.mem_of_getElem? ht)
  refine ⟨fun _ u hu => ?_, htm.2.1, ?_⟩
  · rw [foldH_on u (ys.take n) H (fun i hi => (s1 i (List.mem_of_mem_take hi)).2.2)]
    by_cases e : ((ys.take n).any fun t => decide (t.u = u)) = true
    · rw [if_pos e, hs.L]
    · rw [if_neg e]
      refine ha hh u (fun s hl => ?_)
      by_cases hs2 : N < s
      · obtain ⟨i, hm, hiu⟩ := List.any_eq_true.1 (s2 u s hl hs2)
        have hiu : i.u = u := by simpa using hiu
        obtain ⟨j, hj⟩ := List.mem_iff_getElem?.1 hm
        have hv := (s1 i hm).1
        rw [hiu, hl] at hv
        cases hv
        by_cases hjn : j < n
        · exact absurd (List.any_eq_true.2 ⟨i, List.mem_of_getElem? (i := j) (by rw [List.getElem?_take, if_pos hjn]; exact hj), decide_eq_true hiu⟩) e
        · have h1 := hu _ hl
          have h2 := sin_mono h (show p ≤ j by omega) ht hj
          have h3 := spl_ne hn (by rw [List.length_map]; exact hnl) (show n ≤ j by omega) (show (ys.map It.v)[j]? = some i.v by rw [List.getElem?_map, hj]; rfl)
          rw [List.getD_eq_getElem?_getD, List.getElem?_map, hp, Nat.add_sub_cancel, ht] at h3
          have h4 : i.v ≠ t.v := h3
          omega
      · omega
  · have hl := htm.1
    unfold lastT at hl
    cases hf : R.log.reverse.find? fun c => decide (c.2 = t.u) with
    | none => rw [hf] at hl; cases hl
    | some x =>
      rw [hf] at hl
      have e : x.1 = t.v := by simpa using hl
      have := hs.sl x (List.mem_reverse.1 (List.mem_of_find?_eq_some hf))
      omega
/-- All cards, folded into nothing: what the collection has. -/
theorem page_zero {k : Nat} {c : Cs} (hi : Inv k c) {ys : List It} (h : Sin c 0 ys) : ∀ u, (ys.foldl foldH fun _ => none) u = getL u c.L := fun u => by
  have hall : ∀ t ∈ ys, (if t.x = true then none else some (t.v, t.c)) = getL t.u c.L := fun t ht => by
    have hm := h.1.mem_iff.1 ht
    unfold sin0 at hm
    rw [if_pos rfl] at hm
    unfold itsK at hm
    obtain ⟨p, hp, rfl⟩ := List.mem_map.1 hm
    have hg := srt_get hi.srt p hp
    show (if false = true then none else some (p.2.1, p.2.2)) = getL p.1 c.L
    rw [hg, if_neg (by decide)]
  rw [foldH_on u ys _ hall]
  by_cases e : (ys.any fun t => decide (t.u = u)) = true
  · rw [if_pos e]
  · rw [if_neg e]
    refine Eq.symm (getL_none fun a hm e2 => e ?_)
    rw [h.1.any_eq]
    unfold sin0
    rw [if_pos rfl]
    unfold itsK
    exact List.any_eq_true.2 ⟨_, List.mem_map.2 ⟨a, hm, rfl⟩, decide_eq_true e2⟩
/-- Two sorted rows that say the same are the same. -/
theorem srt_ext : ∀ {A B : LK}, Srt A → Srt B → (∀ u, getL u A = getL u B) → A = B
  | [], [], _, _, _ => rfl
  | [], b :: B, _, _, h => by have := h b.1; rw [getL_cons, if_pos rfl] at this; cases this
  | a :: A, [], _, _, h => by have := h a.1; rw [getL_cons, if_pos rfl] at this; cases this
  | a :: A, b :: B, ha, hb, h => by
    obtain ⟨a1, a2⟩ := List.pairwise_cons.1 ha
    obtain ⟨b1, b2⟩ := List.pairwise_cons.1 hb
    have hk : a.1 = b.1 := by
      by_cases e : a.1 = b.1
      · exact e
      · have h1 := h a.1
        rw [getL_cons, if_pos rfl, getL_cons, if_neg e] at h1
        have h2 := h b.1
        rw [getL_cons, if_neg (fun e2 => e e2.symm), getL_cons, if_pos rfl] at h2
        have m1 := getL_mem h1.symm
        have m2 := getL_mem h2
        have k1 := b1 _ m1
        have k2 := a1 _ m2
        have := klt_asym k1
        rw [k2] at this; cases this
    have hv : a.2 = b.2 := by
      have h1 := h a.1
      rw [getL_cons, if_pos rfl, getL_cons, if_pos hk] at h1
      exact Option.some.inj h1
    have he : a = b := Prod.ext hk hv
    subst he
    rw [srt_ext a2 b2 (fun u => ?_)]
    by_cases e : u = a.1
    · subst e
      rw [getL_none (fun p hp e2 => by have := a1 p hp; rw [e2, klt_irr] at this; cases this), getL_none (fun p hp e2 => by have := b1 p hp; rw [e2, klt_irr] at this; cases this)]
    · have := h u
      rwa [getL_cons, if_neg e, getL_cons, if_neg e] at this
end Go.Proofs.Ytpmgabeefppajaa
/- Page of the program alone; a collection with the document's as a ghost. -/
namespace Go.Proofs.Ytpmgabeefppajaa
open Go.RowKit
open Go.Lib
open Go.Proofs.Sp
set_option linter.unusedVariables false
set_option linter.unusedSimpArgs false
set_option maxRecDepth 100000
theorem csince_cl {wr : World} {B g k : Nat} {c : Cs} (h : Cl wr B g c) (hi : Inv k c) (hk : k ≤ 1000) (T : Int) (ho : T = 0 ∨ (c.horizon ≤ T ∧ T ≤ c.latest)) : Calls Try.prog 43 #[.pointer (some ⟨g, 0, none⟩), .int .i64 T] wr fun e w' => ∃ U ys, Sin c T ys ∧ e = .returned (.tuple #[U, .int .i64 0]) ∧ w'.ownsRow wr.heap.size 41 4 U ys.length (itsC ys) ∧ Below wr.heap.size wr w' := by
  have hf := hi.fit (by omega)
  by_cases h0 : T = 0
  · subst h0
    exact since_live h hi.srt hf
  · have h1 := ho.resolve_left h0
    exact since_chg h hf h0 h1.1 h1.2
/-- A collection alone, the document's as a ghost: what a law knows of it. -/
structure Gh (k : Nat) (c : Cs) (R : Rs) (t : Int) : Prop where
  sim : Sim c R
  inv : Inv k c
  kv : KV R.log R.L
  wfc : Wfc c
  la : c.latest ≤ t
theorem gh_new (birth cards log : Int) : Gh 0 (newC birth cards log) (rnewC birth cards log) birth := ⟨sim_new _ _ _, inv_new _ _ _, kv_new _ _ _, wfc_new _ _ _, Int.le_refl _⟩
theorem Gh.ap {k : Nat} {c : Cs} {R : Rs} {t : Int} (h : Gh k c R t) (del : Bool) (uid card : ByteArray) (hu : uid.size ≤ 1000) (hc : card.size ≤ 10000) (ht : wf (t + 1)) : Gh (k + 1) (applyC c del uid card (t + 1)).2 (rAp R del uid card (t + 1)).2 (t + 1) := by
  obtain ⟨_, s2, s3⟩ := sim_apply h.sim h.inv del uid card (t + 1) hu hc
  refine ⟨s2, s3, kv_ap h.sim h.inv h.kv _ _ _ _, wfc_ap h.wfc _ _ _ _ ht, ?_⟩
  have := h.la
  unfold applyC
  split
  · show c.latest ≤ t + 1; omega
  · exact Int.le_refl _
section
variable {w wr w' : World} {g r k : Nat} {c : Cs} {R : Rs}
set_option maxHeartbeats 8000000 in
theorem cpage_any {B : Nat} (h : Cl wr B g c) (hi : Inv k c) (hk : k ≤ 1000) (hw : Wfc c) (T most : Int) : Calls Try.prog 24 #[.pointer (some ⟨g, 0, none⟩), .int .i64 T, .int .i64 most] wr fun e w' => ∃ A len cap b ys, TellC c T ys ∧ e = .returned (.tuple #[.slice A len cap, .int .i64 (pgO c T most ys).2.1, .bool (pgO c T most ys).2.2, .int .i64 (errC c T)]) ∧ Its w' A len cap b 0 (pgO c T most ys).1 ∧ Below wr.heap.size wr w' := by
  by_cases hb : BadT c T
  · have HSB := Lib.hid (since_bad h hb.1 hb.2)
    have HE := Lib.hid (pg_bad hb most)
    have HTE := HE.out.2.1
    clear hb h
    go_enter Try.func24, Try.ntmps24
    go_wp2_with fail
    refine HSB.out.mono ?_
    rintro _ w5 ⟨rfl, hw5⟩
    replace hw5 := hw5.symm
    subst hw5
    go_wp2
    ((try simp only [Exit.inBlock, Exit.then]); refine bodyPost_ret (results_tmp4 rfl _ _ _) rfl ?_)
    exact ⟨none, 0, 0, 0, [], HTE, by rw [HE.out.1, HE.out.2.2] <;> rfl, by rw [HE.out.2.2]; exact its_nil _, Below.refl _ _⟩
  · have HNB := Lib.hid hb
    have HOK := Lib.hid (badT_no hb)
    have HER := Lib.hid (pg_err hb)
    rw [HER.out]
    have HCS := Lib.hid (csince_cl h hi hk T HOK.out)
    have HH := Lib.hid h
    have HIV := Lib.hid hi
    have HWF := Lib.hid hw
    clear hb h hw hi
    go_enter Try.func24, Try.ntmps24
    go_wp2_with fail
    refine HCS.out.mono ?_
    rintro _ ws ⟨U, ys, hs, rfl, h1, h2⟩
    have HTE := Lib.hid (pg_tell HNB.out hs)
    have HYL := Lib.hid (show ys.length ≤ 1000 from (by rw [hs.1.length_eq]; have := sin0_len HIV.out T; omega))
    have HWV := Lib.hid (told_wf HWF.out hs)
    have HUB := Lib.hid h2
    obtain ⟨mm, RR, hbx, -, -, -, -⟩ := HH.out.on h2
    have c4 := hbx.cell 4
    simp only [List.getElem?_toArray, List.getElem?_cons_zero, List.getElem?_cons_succ] at c4
    obtain ⟨A1, cap1, b1, rfl, hi1, -⟩ := own_its2 h1
    have HU := Lib.hid h1
    have HI := Lib.hid hi1
    have hc1 := hi1.le
    obtain ⟨len, hlen⟩ : ∃ n, ys.length = n := ⟨_, rfl⟩
    have HLE := Lib.hid hlen
    rw [hlen] at HU HI hc1 HYL ⊢
    have hlI : (len : Int) ≤ 1000 := by have := HYL.out; omega
    clear h1 h2 hi1 hlen hbx hs HCS
    by_cases hT : T = 0
    · have HPG := Lib.hid (pg_full (most := most) HNB.out (ys := ys) (.inl hT))
      subst hT
      go_wp2_with fail
      go_quiet (fail)
      go_wp2
      ((try simp only [Exit.inBlock, Exit.then]); refine bodyPost_ret (results_tmp4 rfl _ _ _) rfl ?_)
      exact ⟨_, _, _, b1, ys, HTE.out, by rw [HPG.out] <;> rfl, by rw [HPG.out]; exact HI.out.below (below_drewN (Below.refl _ _) _) (fun e => (HI.out.addr e).2), below_drewN HUB.out _⟩
    · have t0 : (T == 0) = false := by simpa using hT
      have HSP := Lib.hid (split_any HI.out (by omega) HWV.out most)
      have hin := spl_in (ys.map It.v) most
      rw [List.length_map, HLE.out] at hin
      obtain ⟨n, hn⟩ : ∃ n, spl (ys.map It.v) most = n := ⟨_, rfl⟩
      have HN := Lib.hid hn
      rw [hn] at HSP hin
      clear hn
      go_wp2_with fail
      refine HSP.out.mono ?_
      rintro _ w5 ⟨rfl, hb5⟩
      have HB5 := Lib.hid (HUB.out.trans (hb5.mono HUB.out.size))
      have HI5 := Lib.hid (HI.out.below hb5 (fun e => (HI.out.addr e).2))
      have HU5 := Lib.hid (own_below HU.out hb5)
      have c4' : w5.cell? ⟨g, 4, none⟩ = some (.int .i64 c.latest) := (hb5.cell (p := ⟨g, 4, none⟩) (by
        exact Cl_lt HH.out |> fun h => Nat.lt_of_lt_of_le h HUB.out.size)).trans c4
      clear hb5 HSP c4
      by_cases hnl : n = len
      · have HPG := Lib.hid (pg_full (most := most) HNB.out (ys := ys) (.inr (by rw [HN.out, HLE.out]; exact hnl)))
        subst hnl
        go_wp2_with fail
        go_quiet (fail)
        go_wp2
        ((try simp only [Exit.inBlock, Exit.then]); refine bodyPost_ret (results_tmp4 rfl _ _ _) rfl ?_)
        exact ⟨_, _, _, b1, ys, HTE.out, by rw [HPG.out] <;> rfl, by rw [HPG.out]; exact HI5.out.below (below_drewN (Below.refl _ _) _) (fun e => (HI5.out.addr e).2), below_drewN HB5.out _⟩
      · have hin2 := hin.resolve_left hnl
        obtain ⟨p, hp⟩ : ∃ p, n = p + 1 := ⟨n - 1, by omega⟩
        obtain ⟨t, ht⟩ : ∃ t, ys[p]? = some t := ⟨ys[p]'(by rw [HLE.out]; omega), List.getElem?_eq_getElem _⟩
        have HPG := Lib.hid (pg_cut HNB.out (ys := ys) hT HN.out (by rw [HLE.out]; exact hnl) hp ht)
        obtain ⟨rfl, hbl⟩ := HI5.out.addr (by omega)
        obtain ⟨d0, d1, -⟩ := row_item HU5.out ht
        obtain ⟨tu, tv, tx, tc⟩ := t
        have HTT := Lib.hid ht
        simp only at d1 HPG
        have i1 : IntKind.i64.wrap ((n : Int) - 1) = (p : Int) := by rw [IntWalk.i64_in _ (by omega)]; omega
        have i2 : wrap64 ((n : Int) - 1) = (p : Int) := by rw [IntWalk.wrap64_in _ (by omega)]; omega
        have hpI : (p : Int) < (len : Int) := by omega
        have hpl : p < len := by omega
        have hpc : p < cap1 := by omega
        have hne : ((n : Int) == (len : Int)) = false := beq_false_of_ne (fun e => hnl (by omega))
        have hcut := icut_to (some ⟨b1, 0, none⟩) len cap1 n (by omega)
        have HCL := Lib.hid (clone_any (own_below HU5.out (Below.refl _ w5).drew) (n := n) (by omega) (by omega) (by omega))
        have HTL := Lib.hid (show (ys.take n).length = n by rw [List.length_take, HLE.out]; omega)
        clear ht hp hin hin2 d0 hbl
        go_wp2_with fail
        go_region_held3 (fun W => W.cell? ⟨b1, p * 4 + 1, none⟩ = some (.int .i64 tv)) (assumption) (first
          | (go_at_call 45
             (with_reducible refine HCL.out.mono ?_)
             clear HCL
             rintro _ w6 ⟨U6, rfl, h1, h2⟩
             have HU6 := Lib.hid (show w6.ownsRow w5.drew.heap.size 41 4 U6 (ys.take n).length (itsC (ys.take n)) by rw [HTL.out]; exact h1)
             have HB6 := Lib.hid ((HB5.out.drew).trans (h2.mono HB5.out.size))
             have e1 : w6.cell? ⟨b1, p * 4 + 1, none⟩ = some (.int .i64 tv) := (row_item (own_below HU5.out (show Below w5.heap.size w5 w6 from ((Below.refl _ w5).drew).trans h2)) HTT.out).2.1
             clear h1 h2)
          | fail)
        all_goals (
          go_wp2
          obtain ⟨A6, cap6, b6, rfl, hi6, -⟩ := own_its2 HU6.out
          ((try simp only [Exit.inBlock, Exit.then]); refine bodyPost_ret (results_tmp4 rfl _ _ _) rfl ?_)
          exact ⟨_, _, _, b6, ys, HTE.out, by rw [HPG.out] <;> rfl, by rw [HPG.out]; exact hi6, HB6.out⟩)
end
end Go.Proofs.Ytpmgabeefppajaa
namespace Go.Proofs.Ytpmgabeefppajaa
open Go.RowKit
open Go.Lib
set_option linter.unusedVariables false
set_option linter.unusedSimpArgs false
set_option maxRecDepth 100000
abbrev shOp : Sh := Sh.agg 5 [(0, 1, Sh.bool), (1, 1, Sh.str), (2, 1, Sh.str), (3, 2, (Sh.agg 2 [(0, 1, (Sh.int .i64)), (1, 1, (Sh.int .i64))]))]
/-- A write. -/
structure Ow where
  del : Bool
  uid : ByteArray
  card : ByteArray
  k : Int
  v : Int
abbrev opA (o : Ow) : Array Value := #[.bool o.del, .string o.uid, .string o.card, .int .i64 o.k, .int .i64 o.v]
def opC (o : Ow) : List Value := (opA o).toList
theorem op_open {w : World} {cs : List Value} (h : Sh.ok w shOp cs) : ∃ o : Ow, cs = opC o := by
  simp only [Sh.ok, Sh.okAll] at h
  obtain ⟨hl, ⟨d, e0⟩, ⟨u, e1, _⟩, ⟨c, e2, _⟩, ⟨_, ⟨k, e3, _⟩, ⟨v, e4, _⟩, _⟩, _⟩ := h
  match cs, hl with
  | [c0, c1, c2, c3, c4], _ =>
    simp at e0 e1 e2 e3 e4
    subst e0 e1 e2 e3 e4
    exact ⟨⟨d, u, c, k, v⟩, rfl⟩
def litO (o : Ow) : Bool := decide (o.uid.size ≤ 60) && decide (o.card.size ≤ 1000)
theorem litO_iff {o : Ow} (h : litO o = true) : o.uid.size ≤ 60 ∧ o.card.size ≤ 1000 := by
  unfold litO at h
  simpa only [Bool.and_eq_true, decide_eq_true_eq] using h
theorem aall_snoc {α : Type} (p : α → Bool) (xs : List α) (q : Nat) (t : α) (h : xs[q]? = some t) : (xs.take (q + 1)).all p = ((xs.take q).all p && p t) := by
  rw [List.take_add_one, h]; simp
end Go.Proofs.Ytpmgabeefppajaa
