/- The acts of a law: where they lie, are they light. -/
import Derived.Test.YtpmgabeefppajaaRe
namespace Go.Proofs.Ytpmgabeefppajaa
open Go.RowKit
open Go.Lib
set_option linter.unusedVariables false
set_option linter.unusedSimpArgs false
set_option maxRecDepth 100000
abbrev shRp : Sh := Sh.agg 8 [(0, 1, (Sh.int .i64)), (1, 1, (Sh.int .i64)), (2, 1, (Sh.int .i64)), (3, 1, (Sh.int .i64)), (4, 1, Sh.str), (5, 1, (Sh.int .i64)), (6, 1, Sh.bool), (7, 1, (Sh.slice 4 shIt))]
abbrev shAq : Sh := Sh.agg 9 [(0, 1, (Sh.int .i64)), (1, 8, shRp)]
/-- An answer. -/
structure Rq where
  k : Int
  e : Int
  tok : Int
  ver : Int
  card : ByteArray
  idx : Int
  more : Bool
  A : Option Addr
  len : Nat
  cap : Nat
  b : Nat
  off : Nat
  xs : List It
abbrev rqA (r : Rq) : Array Value := #[.int .i64 r.k, .int .i64 r.e, .int .i64 r.tok, .int .i64 r.ver, .string r.card, .int .i64 r.idx, .bool r.more, .slice r.A r.len r.cap]
def rqI (w : World) (r : Rq) : Prop := Its w r.A r.len r.cap r.b r.off r.xs
def rqLight (r : Rq) : Bool := lightB r.card r.xs
theorem rq_open {w : World} {cs : List Value} (h : Sh.ok w shRp cs) : ∃ r : Rq, cs = (rqA r).toList ∧ rqI w r := by
  simp only [Sh.ok, Sh.okAll] at h
  obtain ⟨hl, ⟨k, e0, _⟩, ⟨e, e1, _⟩, ⟨tok, e2, _⟩, ⟨ver, e3, _⟩, ⟨card, e4, _⟩, ⟨idx, e5, _⟩, ⟨more, e6⟩, h7, _⟩ := h
  match cs, hl with
  | [c0, c1, c2, c3, c4, c5, c6, c7], _ =>
    simp at e0 e1 e2 e3 e4 e5 e6 h7
    subst e0 e1 e2 e3 e4 e5 e6
    obtain ⟨A, len, cap, rfl⟩ : ∃ A len cap, c7 = .slice A len cap := by
      rcases h7 with h | ⟨a, l, c, h, _⟩
      · exact ⟨none, 0, 0, h⟩
      · exact ⟨some a, l, c, h⟩
    have hS : Sh.ok w (Sh.slice 4 shIt) [.slice A len cap] := by
      simp only [Sh.ok, Sh.okAll]
      simpa using h7
    obtain ⟨b, off, xs, hx, _⟩ := its_open hS
    exact ⟨⟨k, e, tok, ver, card, idx, more, A, len, cap, b, off, xs⟩, rfl, hx⟩
structure Aq where
  asked : Int
  r : Rq
def aqC (a : Aq) : List Value := .int .i64 a.asked :: (rqA a.r).toList
theorem aq_open {w : World} {cs : List Value} (h : Sh.ok w shAq cs) : ∃ a : Aq, cs = aqC a ∧ rqI w a.r := by
  unfold shAq at h
  rw [Sh.ok, Sh.okAll, Sh.okAll] at h
  obtain ⟨hl, h0, h1, _⟩ := h
  simp only [Sh.ok] at h0
  obtain ⟨asked, e0, _⟩ := h0
  obtain ⟨r, hr, hi⟩ := rq_open h1
  refine ⟨⟨asked, r⟩, ?_, hi⟩
  match cs, hl with
  | [c0, c1, c2, c3, c4, c5, c6, c7, c8], _ =>
    simp at e0
    subst e0
    simp at hr
    unfold aqC
    simpa using hr
/-- The acts: nine cells each. -/
structure Aqs (w : World) (A : Option Addr) (len cap b off : Nat) (l : List Aq) : Prop where
  hlen : l.length = len
  le : len ≤ cap
  addr : 0 < len → A = some ⟨b, off, none⟩ ∧ b < w.heap.size
  cell : ∀ (j : Nat) (a : Aq), l[j]? = some a → ∀ i, i < 9 → w.cell? ⟨b, off + j * 9 + i, none⟩ = (aqC a)[i]?
  its : ∀ a ∈ l, rqI w a.r
theorem aqs_open {w : World} {A : Option Addr} {len cap : Nat} (S : Sh.ok w (Sh.slice 9 shAq) [.slice A len cap]) : ∃ b off l, Aqs w A len cap b off l := by
  obtain ⟨b, off, hle, hmax, ha, hc⟩ := slice_at S (by omega)
  have H : ∀ i, i < len → ∃ a : Aq, rqI w a.r ∧ ∀ j, j < 9 → w.cell? ⟨b, off + i * 9 + j, none⟩ = (aqC a)[j]? := by
    intro i hi
    obtain ⟨cs, hl, hok, hcell⟩ := hc i hi
    obtain ⟨a, rfl, h1⟩ := aq_open hok
    exact ⟨a, h1, hcell⟩
  refine ⟨b, off, List.ofFn (fun i : Fin len => Classical.choose (H i.1 i.2)), ⟨by simp, hle, ha, fun j a hj => ?_, fun a ha => ?_⟩⟩
  · have hjl : j < len := by have := (List.getElem?_eq_some_iff.1 hj).1; simpa using this
    rw [List.getElem?_eq_getElem (by simpa using hjl)] at hj
    simp only [List.getElem_ofFn, Option.some.injEq] at hj
    have h2 := (Classical.choose_spec (H j hjl)).2
    rw [hj] at h2
    exact h2
  · obtain ⟨i, rfl⟩ := (List.mem_ofFn).1 ha
    exact (Classical.choose_spec (H i.1 i.2)).1
theorem rqI_below {w w' : World} {r : Rq} (h : rqI w r) (hb : Below w.heap.size w w') : rqI w' r := Its.below h hb (fun hl => (h.addr hl).2)
theorem rq_lt {w : World} {r : Rq} (h : rqI w r) (hl : 0 < r.len) : r.b < w.heap.size := (h.addr hl).2
/-- What an act's cells hold, far on. -/
theorem Aqs.at_ {w wr : World} {A : Option Addr} {len cap b off : Nat} {l : List Aq} (h : Aqs w A len cap b off l) (hb : Below w.heap.size w wr) {q : Nat} {a : Aq} (ha : l[q]? = some a) :
    A = some ⟨b, off, none⟩ ∧ wr.cell? ⟨b, off + q * 9, none⟩ = some (.int .i64 a.asked) ∧ wr.cell? ⟨b, off + q * 9 + 1, none⟩ = some (.int .i64 a.r.k) ∧ wr.cell? ⟨b, off + q * 9 + 2, none⟩ = some (.int .i64 a.r.e) ∧ wr.cell? ⟨b, off + q * 9 + 3, none⟩ = some (.int .i64 a.r.tok) ∧ wr.cell? ⟨b, off + q * 9 + 4, none⟩ = some (.int .i64 a.r.ver) ∧ wr.cell? ⟨b, off + q * 9 + 5, none⟩ = some (.string a.r.card) ∧ wr.cell? ⟨b, off + q * 9 + 6, none⟩ = some (.int .i64 a.r.idx) ∧ wr.cell? ⟨b, off + q * 9 + 7, none⟩ = some (.bool a.r.more) ∧ wr.cell? ⟨b, off + q * 9 + 8, none⟩ = some (.slice a.r.A a.r.len a.r.cap) := by
  have hql := (List.getElem?_eq_some_iff.1 ha).1
  obtain ⟨e, hlt⟩ := h.addr (by have := h.hlen; omega)
  have hc := h.cell q a ha
  have key : ∀ i v, i < 9 → (aqC a)[i]? = some v → wr.cell? ⟨b, off + q * 9 + i, none⟩ = some v := fun i v hi hv => by
    rw [hb.cell (p := ⟨b, off + q * 9 + i, none⟩) hlt, hc i hi, hv]
  exact ⟨e, key 0 _ (by omega) rfl, key 1 _ (by omega) rfl, key 2 _ (by omega) rfl, key 3 _ (by omega) rfl, key 4 _ (by omega) rfl, key 5 _ (by omega) rfl, key 6 _ (by omega) rfl, key 7 _ (by omega) rfl, key 8 _ (by omega) rfl⟩
def lightL (l : List Aq) : Bool := decide (l.length ≤ 40) && l.all (fun a => rqLight a.r)
theorem lall_snoc (p : Aq → Bool) (xs : List Aq) (q : Nat) (t : Aq) (h : xs[q]? = some t) : (xs.take (q + 1)).all p = ((xs.take q).all p && p t) := by
  rw [List.take_add_one, h]; simp
theorem lall_miss (p : Aq → Bool) (xs : List Aq) (q : Nat) (t : Aq) (h : xs[q]? = some t) (hp : p t = false) : xs.all p = false := by
  rw [List.all_eq_false]
  exact ⟨t, List.mem_of_getElem? h, by rw [hp]; decide⟩
set_option maxHeartbeats 8000000 in
theorem lights_any {w : World} {A : Option Addr} {len cap b off : Nat} {l : List Aq} (h : Aqs w A len cap b off l) : Calls Try.prog 9 #[.slice A len cap] w fun r w' => r = .returned (.bool (lightL l)) ∧ Below w.heap.size w w' := by
  have HI := Lib.hid h
  have hlen := h.hlen
  have hlc := h.le
  obtain ⟨r, hr⟩ : ∃ r, lightL l = r := ⟨_, rfl⟩
  have HR0 := Lib.hid hr.symm
  rw [hr]
  clear hr h
  by_cases n0 : (len : Int) > 40
  · have H0 := Lib.hid (show r = false by rw [HR0.out]; unfold lightL; rw [decide_eq_false (by omega)]; rfl)
    go_enter Try.func9, Try.ntmps9
    go_wp2
    go_ret
    exact ⟨by rw [H0.out]; rfl, Below.refl _ _⟩
  have HR := Lib.hid (show r = l.all (fun a => rqLight a.r) by rw [HR0.out]; unfold lightL; rw [decide_eq_true (show l.length ≤ 40 by omega)]; rfl)
  have hnI : (len : Int) ≤ 40 := by omega
  clear HR0
  go_enter Try.func9, Try.ntmps9
  go_wp2
  go_loopw [3] (fun i wr => ∃ q : Nat, q ≤ len ∧ i = .int .i64 (q : Int) ∧ (l.take q).all (fun a => rqLight a.r) = true ∧ Below w.heap.size w wr) (fun i _ => len - (intOf i).toNat)
  case atStart => exact ⟨0, Nat.zero_le _, rfl, by simp, Below.refl _ _⟩
  case round =>
    obtain ⟨q, hq, rfl, hall, hB⟩ := hrel
    have HB := Lib.hid hB
    have HAL := Lib.hid hall
    clear hB hall
    by_cases hql : q < len
    · obtain ⟨a, ha⟩ : ∃ a, l[q]? = some a := ⟨l[q]'(by rw [HI.out.hlen]; exact hql), List.getElem?_eq_getElem _⟩
      obtain ⟨rfl, a0, a1, a2, a3, a4, a5, a6, a7, a8⟩ := HI.out.at_ HB.out ha
      have HSN := Lib.hid (lall_snoc (fun a => rqLight a.r) l q a ha)
      have HMI := Lib.hid (lall_miss (fun a => rqLight a.r) l q a ha)
      have HIT := Lib.hid (rqI_below (HI.out.its a (List.mem_of_getElem? ha)) HB.out)
      obtain ⟨asked, ⟨k, e, tok, ver, card, idx, more, A1, len1, cap1, b1, off1, xs⟩⟩ := a
      simp only at a0 a1 a2 a3 a4 a5 a6 a7 a8
      have HC := Lib.hid (light_any HIT.out k e tok ver card idx more)
      have hqI : (q : Int) < (len : Int) := by omega
      simp only at HC
      obtain ⟨y, hy⟩ : ∃ y, lightB card xs = y := ⟨_, rfl⟩
      have HY := Lib.hid hy
      rw [hy] at HC
      clear ha a0 hy
      cases y with
      | true =>
        have HN := Lib.hid (show (l.take (q + 1)).all (fun a => rqLight a.r) = true by rw [HSN.out, HAL.out, Bool.true_and]; exact HY.out)
        clear HSN HMI
        go_wp2_with fail
        refine HC.out.mono ?_
        rintro _ w2 ⟨rfl, hb2⟩
        have HB2 := Lib.hid (HB.out.trans (hb2.mono HB.out.size))
        clear hb2 HC
        go_wp2
        go_roundw
        case rel => exact ⟨q + 1, by omega, by go_num, HN.out, HB2.out⟩
        case measure => simp [intOf]; omega
      | false =>
        have H0 := Lib.hid (show r = false by rw [HR.out]; exact HMI.out HY.out)
        clear HSN HMI
        go_wp2_with fail
        refine HC.out.mono ?_
        rintro _ w2 ⟨rfl, hb2⟩
        have HB2 := Lib.hid (HB.out.trans (hb2.mono HB.out.size))
        clear hb2 HC
        go_wp2
        go_ret
        exact ⟨by rw [H0.out]; rfl, HB2.out⟩
    · obtain rfl : q = len := by omega
      have H0 := Lib.hid (show r = true by rw [HR.out]; have := HAL.out; rw [List.take_of_length_le (by omega)] at this; exact this)
      go_wp2
      go_ret
      exact ⟨by rw [H0.out]; rfl, HB.out⟩
theorem light_rq {r : Rq} {w : World} (h : rqI w r) (hl : rqLight r = true) : r.len ≤ 120 ∧ (∀ t ∈ r.xs, t.u.size ≤ 60) := by
  unfold rqLight lightB at hl
  simp only [Bool.and_eq_true, decide_eq_true_eq, List.all_eq_true] at hl
  obtain ⟨⟨_, h2⟩, h3⟩ := hl
  refine ⟨by rw [← h.hlen]; exact h2, fun t ht => ?_⟩
  have := h3 t ht
  unfold litI at this
  simp only [Bool.and_eq_true, decide_eq_true_eq] at this
  exact this.1
end Go.Proofs.Ytpmgabeefppajaa
