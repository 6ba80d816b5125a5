/- ColPlays. -/
import Derived.Test.YthcjbljkokflgaaZag
import Derived.Test.YthcjbljkokflgaaZbe
import Derived.Deep.RegionHeld3
import Derived.Deep.DrawnRows
import Derived.Test.YthcjbljkokflgaaZba
set_option linter.unnecessarySimpa false
/- The acts and the writes that a law is given: where they lie, are they light. -/
namespace Go.Proofs.Ythcjbljkokflgaa
open Go.RowKit
open Go.Lib
set_option linter.unusedVariables false
set_option linter.unusedSimpArgs false
set_option maxRecDepth 100000
abbrev shOp : Sh := Sh.agg 5 [(0, 1, Sh.bool), (1, 1, Sh.str), (2, 1, Sh.str), (3, 2, (Sh.agg 2 [(0, 1, (Sh.int .i64)), (1, 1, (Sh.int .i64))]))]
abbrev shAk : Sh := Sh.agg 6 [(0, 5, shOp), (5, 1, (Sh.int .i64))]
/-- A write. -/
structure Ow where
  del : Bool
  uid : ByteArray
  card : ByteArray
  k : Int
  v : Int
abbrev opA (o : Ow) : Array Value := #[.bool o.del, .string o.uid, .string o.card, .int .i64 o.k, .int .i64 o.v]
structure Ak where
  o : Ow
  tok : Int
def opC (o : Ow) : List Value := (opA o).toList
def akC (a : Ak) : List Value := opC a.o ++ [.int .i64 a.tok]
theorem op_open {w : World} {cs : List Value} (h : Sh.ok w shOp cs) : ∃ o : Ow, cs = opC o := by
  simp only [Sh.ok, Sh.okAll] at h
  obtain ⟨hl, ⟨d, e0⟩, ⟨u, e1, _⟩, ⟨c, e2, _⟩, ⟨_, ⟨k, e3, _⟩, ⟨v, e4, _⟩, _⟩, _⟩ := h
  match cs, hl with
  | [c0, c1, c2, c3, c4], _ =>
    simp at e0 e1 e2 e3 e4
    subst e0 e1 e2 e3 e4
    exact ⟨⟨d, u, c, k, v⟩, rfl⟩
theorem ak_open {w : World} {cs : List Value} (h : Sh.ok w shAk cs) : ∃ a : Ak, cs = akC a := by
  unfold shAk at h
  rw [Sh.ok, Sh.okAll, Sh.okAll] at h
  obtain ⟨hl, h0, h1, _⟩ := h
  obtain ⟨o, ho⟩ := op_open h0
  simp only [Sh.ok] at h1
  obtain ⟨tok, e0, _⟩ := h1
  refine ⟨⟨o, tok⟩, ?_⟩
  match cs, hl with
  | [c0, c1, c2, c3, c4, c5], _ =>
    simp at e0
    subst e0
    simp at ho
    unfold akC
    rw [← ho]; rfl
/-- A row of them. -/
structure Aks (w : World) (A : Option Addr) (len cap b off : Nat) (l : List Ak) : Prop where
  hlen : l.length = len
  le : len ≤ cap
  addr : 0 < len → A = some ⟨b, off, none⟩ ∧ b < w.heap.size
  cell : ∀ (j : Nat) (a : Ak), l[j]? = some a → ∀ i, i < 6 → w.cell? ⟨b, off + j * 6 + i, none⟩ = (akC a)[i]?
theorem Aks.on {w w' : World} {A : Option Addr} {len cap b off : Nat} {l : List Ak} (h : Aks w A len cap b off l) (hb : Below w.heap.size w w') : Aks w' A len cap b off l :=
  ⟨h.hlen, h.le, fun e => ⟨(h.addr e).1, Nat.lt_of_lt_of_le (h.addr e).2 hb.size⟩, fun j a hj i hi => (hb.cell (p := ⟨b, _, none⟩) (h.addr (by have := (List.getElem?_eq_some_iff.1 hj).1; have := h.hlen; omega)).2).trans (h.cell j a hj i hi)⟩
theorem Aks_open {w : World} {A : Option Addr} {len cap : Nat} (S : Sh.ok w (Sh.slice 6 shAk) [.slice A len cap]) : ∃ b off l, Aks w A len cap b off l := by
  obtain ⟨b, off, hle, hmax, ha, hc⟩ := slice_at S (by omega)
  have H : ∀ i, i < len → ∃ a : Ak, ∀ j, j < 6 → w.cell? ⟨b, off + i * 6 + j, none⟩ = (akC a)[j]? := by
    intro i hi
    obtain ⟨cs, hl, hok, hcell⟩ := hc i hi
    obtain ⟨a, rfl⟩ := ak_open hok
    exact ⟨a, hcell⟩
  refine ⟨b, off, List.ofFn (fun i : Fin len => Classical.choose (H i.1 i.2)), ⟨by simp, hle, ha, fun j a hj => ?_⟩⟩
  have hjl : j < len := by have := (List.getElem?_eq_some_iff.1 hj).1; simpa using this
  rw [List.getElem?_eq_getElem (by simpa using hjl)] at hj
  simp only [List.getElem_ofFn, Option.some.injEq] at hj
  have h2 := Classical.choose_spec (H j hjl)
  rw [hj] at h2
  exact h2
theorem Aks.addr' {w : World} {A : Option Addr} {len cap b off : Nat} {l : List Ak} (h : Aks w A len cap b off l) {q : Nat} {a : Ak} (ha : l[q]? = some a) : A = some ⟨b, off, none⟩ ∧ b < w.heap.size :=
  h.addr (by have := (List.getElem?_eq_some_iff.1 ha).1; have := h.hlen; omega)
/-- A row of them. -/
structure Ows (w : World) (A : Option Addr) (len cap b off : Nat) (l : List Ow) : Prop where
  hlen : l.length = len
  le : len ≤ cap
  addr : 0 < len → A = some ⟨b, off, none⟩ ∧ b < w.heap.size
  cell : ∀ (j : Nat) (a : Ow), l[j]? = some a → ∀ i, i < 5 → w.cell? ⟨b, off + j * 5 + i, none⟩ = (opC a)[i]?
theorem Ows.on {w w' : World} {A : Option Addr} {len cap b off : Nat} {l : List Ow} (h : Ows w A len cap b off l) (hb : Below w.heap.size w w') : Ows w' A len cap b off l :=
  ⟨h.hlen, h.le, fun e => ⟨(h.addr e).1, Nat.lt_of_lt_of_le (h.addr e).2 hb.size⟩, fun j a hj i hi => (hb.cell (p := ⟨b, _, none⟩) (h.addr (by have := (List.getElem?_eq_some_iff.1 hj).1; have := h.hlen; omega)).2).trans (h.cell j a hj i hi)⟩
theorem Ows_open {w : World} {A : Option Addr} {len cap : Nat} (S : Sh.ok w (Sh.slice 5 shOp) [.slice A len cap]) : ∃ b off l, Ows w A len cap b off l := by
  obtain ⟨b, off, hle, hmax, ha, hc⟩ := slice_at S (by omega)
  have H : ∀ i, i < len → ∃ a : Ow, ∀ j, j < 5 → w.cell? ⟨b, off + i * 5 + j, none⟩ = (opC a)[j]? := by
    intro i hi
    obtain ⟨cs, hl, hok, hcell⟩ := hc i hi
    obtain ⟨a, rfl⟩ := op_open hok
    exact ⟨a, hcell⟩
  refine ⟨b, off, List.ofFn (fun i : Fin len => Classical.choose (H i.1 i.2)), ⟨by simp, hle, ha, fun j a hj => ?_⟩⟩
  have hjl : j < len := by have := (List.getElem?_eq_some_iff.1 hj).1; simpa using this
  rw [List.getElem?_eq_getElem (by simpa using hjl)] at hj
  simp only [List.getElem_ofFn, Option.some.injEq] at hj
  have h2 := Classical.choose_spec (H j hjl)
  rw [hj] at h2
  exact h2
theorem Ows.addr' {w : World} {A : Option Addr} {len cap b off : Nat} {l : List Ow} (h : Ows w A len cap b off l) {q : Nat} {a : Ow} (ha : l[q]? = some a) : A = some ⟨b, off, none⟩ ∧ b < w.heap.size :=
  h.addr (by have := (List.getElem?_eq_some_iff.1 ha).1; have := h.hlen; omega)
theorem Aks.at_ {w wr : World} {A : Option Addr} {len cap b off : Nat} {l : List Ak} (h : Aks w A len cap b off l) (hb : Below w.heap.size w wr) {q : Nat} {a : Ak} (ha : l[q]? = some a) : wr.cell? ⟨b, off + q * 6, none⟩ = some (.bool a.o.del) ∧ wr.cell? ⟨b, off + q * 6 + 1, none⟩ = some (.string a.o.uid) ∧ wr.cell? ⟨b, off + q * 6 + 2, none⟩ = some (.string a.o.card) ∧ wr.cell? ⟨b, off + q * 6 + 3, none⟩ = some (.int .i64 a.o.k) ∧ wr.cell? ⟨b, off + q * 6 + 4, none⟩ = some (.int .i64 a.o.v) ∧ wr.cell? ⟨b, off + q * 6 + 5, none⟩ = some (.int .i64 a.tok) := by
  have hlt := (h.addr' ha).2
  have hc := h.cell q a ha
  have key : ∀ i v, i < 6 → (akC a)[i]? = some v → wr.cell? ⟨b, off + q * 6 + i, none⟩ = some v := fun i v hi hv => by
    rw [hb.cell (p := ⟨b, off + q * 6 + i, none⟩) hlt, hc i hi, hv]
  exact ⟨key 0 _ (by omega) rfl, key 1 _ (by omega) rfl, key 2 _ (by omega) rfl, key 3 _ (by omega) rfl, key 4 _ (by omega) rfl, key 5 _ (by omega) rfl⟩
theorem Ows.at_ {w wr : World} {A : Option Addr} {len cap b off : Nat} {l : List Ow} (h : Ows w A len cap b off l) (hb : Below w.heap.size w wr) {q : Nat} {a : Ow} (ha : l[q]? = some a) : wr.cell? ⟨b, off + q * 5, none⟩ = some (.bool a.del) ∧ wr.cell? ⟨b, off + q * 5 + 1, none⟩ = some (.string a.uid) ∧ wr.cell? ⟨b, off + q * 5 + 2, none⟩ = some (.string a.card) ∧ wr.cell? ⟨b, off + q * 5 + 3, none⟩ = some (.int .i64 a.k) ∧ wr.cell? ⟨b, off + q * 5 + 4, none⟩ = some (.int .i64 a.v) := by
  have hlt := (h.addr' ha).2
  have hc := h.cell q a ha
  have key : ∀ i v, i < 5 → (opC a)[i]? = some v → wr.cell? ⟨b, off + q * 5 + i, none⟩ = some v := fun i v hi hv => by
    rw [hb.cell (p := ⟨b, off + q * 5 + i, none⟩) hlt, hc i hi, hv]
  exact ⟨key 0 _ (by omega) rfl, key 1 _ (by omega) rfl, key 2 _ (by omega) rfl, key 3 _ (by omega) rfl, key 4 _ (by omega) rfl⟩
def litO (o : Ow) : Bool := decide (o.uid.size ≤ 60) && decide (o.card.size ≤ 1000)
theorem litO_iff {o : Ow} (h : litO o = true) : o.uid.size ≤ 60 ∧ o.card.size ≤ 1000 := by
  unfold litO at h
  simpa only [Bool.and_eq_true, decide_eq_true_eq] using h
theorem aall_snoc {α : Type} (p : α → Bool) (xs : List α) (q : Nat) (t : α) (h : xs[q]? = some t) : (xs.take (q + 1)).all p = ((xs.take q).all p && p t) := by
  rw [List.take_add_one, h]; simp
theorem aall_miss {α : Type} (p : α → Bool) (xs : List α) (q : Nat) (t : α) (h : xs[q]? = some t) (hp : p t = false) : xs.all p = false := by
  rw [List.all_eq_false]
  exact ⟨t, List.mem_of_getElem? h, by rw [hp]; decide⟩
def litA (a : Ak) : Bool := litO a.o
def actsL (l : List Ak) : Bool := decide (l.length ≤ 80) && l.all litA
theorem actsL_iff {l : List Ak} (h : actsL l = true) : l.length ≤ 80 ∧ ∀ a ∈ l, litA a = true := by
  unfold actsL at h
  simpa only [Bool.and_eq_true, decide_eq_true_eq, List.all_eq_true] using h
set_option maxHeartbeats 8000000 in
theorem acts_any {w : World} {A : Option Addr} {len cap b off : Nat} {l : List Ak} (h : Aks w A len cap b off l) : Calls Try.prog 13 #[.slice A len cap] w fun r w' => r = .returned (.bool (actsL l)) ∧ Below w.heap.size w w' := by
  have HI := Lib.hid h
  have hlen := h.hlen
  have hlc := h.le
  obtain ⟨r, hr⟩ : ∃ r, actsL l = r := ⟨_, rfl⟩
  have HR0 := Lib.hid hr.symm
  rw [hr]
  clear hr h
  by_cases n0 : (len : Int) > 80
  · have H0 := Lib.hid (show r = false by rw [HR0.out]; unfold actsL; rw [decide_eq_false (by omega)]; rfl)
    go_enter Try.func13, Try.ntmps13
    go_wp2
    go_ret
    exact ⟨by rw [H0.out]; rfl, Below.refl _ _⟩
  have HR := Lib.hid (show r = l.all litA by rw [HR0.out]; unfold actsL; rw [decide_eq_true (show l.length ≤ 80 by omega)]; rfl)
  have hnI : (len : Int) ≤ 80 := by omega
  clear HR0
  go_enter Try.func13, Try.ntmps13
  go_wp2
  go_loopw [3] (fun i wr => ∃ q : Nat, q ≤ len ∧ i = .int .i64 (q : Int) ∧ (l.take q).all litA = true ∧ Below w.heap.size w wr) (fun i _ => len - (intOf i).toNat)
  case atStart => exact ⟨0, Nat.zero_le _, rfl, by simp, Below.refl _ _⟩
  case round =>
    obtain ⟨q, hq, rfl, hall, hB⟩ := hrel
    have HB := Lib.hid hB
    have HAL := Lib.hid hall
    clear hB hall
    by_cases hql : q < len
    · obtain ⟨a, ha⟩ : ∃ a, l[q]? = some a := ⟨l[q]'(by rw [HI.out.hlen]; exact hql), List.getElem?_eq_getElem _⟩
      obtain ⟨rfl, hbl⟩ := HI.out.addr' ha
      have HSN := Lib.hid (aall_snoc litA l q a ha)
      have HMI := Lib.hid (aall_miss litA l q a ha)
      have hat := HI.out.at_ HB.out ha
      obtain ⟨⟨d, u, c, k, v⟩, tok⟩ := a
      obtain ⟨-, a1, a2, -⟩ := hat
      simp only at a1 a2
      have hqI : (q : Int) < (len : Int) := by omega
      clear ha
      by_cases hu : (u.size : Int) > 60
      · have H0 := Lib.hid (show r = false by rw [HR.out, HMI.out (by unfold litA litO; simp only; rw [decide_eq_false (show ¬ u.size ≤ 60 by omega)]; rfl)])
        clear HSN HMI
        go_wp2
        go_ret
        exact ⟨by rw [H0.out]; rfl, HB.out⟩
      by_cases hc : (c.size : Int) > 1000
      · have H0 := Lib.hid (show r = false by rw [HR.out, HMI.out (by unfold litA litO; simp only; rw [decide_eq_false (show ¬ c.size ≤ 1000 by omega)]; simp)])
        clear HSN HMI
        go_wp2
        go_ret
        exact ⟨by rw [H0.out]; rfl, HB.out⟩
      have HN := Lib.hid (show (l.take (q + 1)).all litA = true by rw [HSN.out, HAL.out, Bool.true_and]; unfold litA litO; simp only; rw [decide_eq_true (show c.size ≤ 1000 by omega), decide_eq_true (show u.size ≤ 60 by omega)]; rfl)
      clear HSN HMI
      go_wp2
      go_roundw
      case rel => exact ⟨q + 1, by omega, by go_num, HN.out, HB.out⟩
      case measure => simp [intOf]; omega
    · obtain rfl : q = len := by omega
      have H0 := Lib.hid (show r = true by rw [HR.out]; have := HAL.out; rw [List.take_of_length_le (by omega)] at this; exact this)
      go_wp2
      go_ret
      exact ⟨by rw [H0.out]; rfl, HB.out⟩
def fewL (l : List Ow) : Bool := decide (l.length ≤ 20) && l.all litO
theorem fewL_iff {l : List Ow} (h : fewL l = true) : l.length ≤ 20 ∧ ∀ a ∈ l, litO a = true := by
  unfold fewL at h
  simpa only [Bool.and_eq_true, decide_eq_true_eq, List.all_eq_true] using h
set_option maxHeartbeats 8000000 in
theorem few_any {w : World} {A : Option Addr} {len cap b off : Nat} {l : List Ow} (h : Ows w A len cap b off l) : Calls Try.prog 24 #[.slice A len cap] w fun r w' => r = .returned (.bool (fewL l)) ∧ Below w.heap.size w w' := by
  have HI := Lib.hid h
  have hlen := h.hlen
  have hlc := h.le
  obtain ⟨r, hr⟩ : ∃ r, fewL l = r := ⟨_, rfl⟩
  have HR0 := Lib.hid hr.symm
  rw [hr]
  clear hr h
  by_cases n0 : (len : Int) > 20
  · have H0 := Lib.hid (show r = false by rw [HR0.out]; unfold fewL; rw [decide_eq_false (by omega)]; rfl)
    go_enter Try.func24, Try.ntmps24
    go_wp2
    go_ret
    exact ⟨by rw [H0.out]; rfl, Below.refl _ _⟩
  have HR := Lib.hid (show r = l.all litO by rw [HR0.out]; unfold fewL; rw [decide_eq_true (show l.length ≤ 20 by omega)]; rfl)
  have hnI : (len : Int) ≤ 20 := by omega
  clear HR0
  go_enter Try.func24, Try.ntmps24
  go_wp2
  go_loopw [3] (fun i wr => ∃ q : Nat, q ≤ len ∧ i = .int .i64 (q : Int) ∧ (l.take q).all litO = true ∧ Below w.heap.size w wr) (fun i _ => len - (intOf i).toNat)
  case atStart => exact ⟨0, Nat.zero_le _, rfl, by simp, Below.refl _ _⟩
  case round =>
    obtain ⟨q, hq, rfl, hall, hB⟩ := hrel
    have HB := Lib.hid hB
    have HAL := Lib.hid hall
    clear hB hall
    by_cases hql : q < len
    · obtain ⟨a, ha⟩ : ∃ a, l[q]? = some a := ⟨l[q]'(by rw [HI.out.hlen]; exact hql), List.getElem?_eq_getElem _⟩
      obtain ⟨rfl, hbl⟩ := HI.out.addr' ha
      have HSN := Lib.hid (aall_snoc litO l q a ha)
      have HMI := Lib.hid (aall_miss litO l q a ha)
      have hat := HI.out.at_ HB.out ha
      obtain ⟨d, u, c, k, v⟩ := a
      obtain ⟨-, a1, a2, -⟩ := hat
      simp only at a1 a2
      have hqI : (q : Int) < (len : Int) := by omega
      clear ha
      by_cases hu : (u.size : Int) > 60
      · have H0 := Lib.hid (show r = false by rw [HR.out, HMI.out (by unfold litO; simp only; rw [decide_eq_false (show ¬ u.size ≤ 60 by omega)]; rfl)])
        clear HSN HMI
        go_wp2
        go_ret
        exact ⟨by rw [H0.out]; rfl, HB.out⟩
      by_cases hc : (c.size : Int) > 1000
      · have H0 := Lib.hid (show r = false by rw [HR.out, HMI.out (by unfold litO; simp only; rw [decide_eq_false (show ¬ c.size ≤ 1000 by omega)]; simp)])
        clear HSN HMI
        go_wp2
        go_ret
        exact ⟨by rw [H0.out]; rfl, HB.out⟩
      have HN := Lib.hid (show (l.take (q + 1)).all litO = true by rw [HSN.out, HAL.out, Bool.true_and]; unfold litO; simp only; rw [decide_eq_true (show c.size ≤ 1000 by omega), decide_eq_true (show u.size ≤ 60 by omega)]; rfl)
      clear HSN HMI
      go_wp2
      go_roundw
      case rel => exact ⟨q + 1, by omega, by go_num, HN.out, HB.out⟩
      case measure => simp [intOf]; omega
    · obtain rfl : q = len := by omega
      have H0 := Lib.hid (show r = true by rw [HR.out]; have := HAL.out; rw [List.take_of_length_le (by omega)] at this; exact this)
      go_wp2
      go_ret
      exact ⟨by rw [H0.out]; rfl, HB.out⟩
end Go.Proofs.Ythcjbljkokflgaa
/- The collection beside the reference's: what stands; Apply of both, same. -/
namespace Go.Proofs.Ythcjbljkokflgaa
open Go.RowKit
open Go.Lib
set_option linter.unusedVariables false
set_option linter.unusedSimpArgs false
set_option maxRecDepth 100000
/-- Both behind k writes. -/
structure Du (w wr : World) (g r k : Nat) (c : Cs) (R : Rs) : Prop where
  cl : Cl wr w.heap.size g c
  rc : Rc wr w.heap.size r R
  bel : Below w.heap.size w wr
  sim : Sim c R
  inv : Inv k c
/-- The one has written, the other not yet. -/
structure Dv (w wr : World) (g r k : Nat) (c c' : Cs) (R : Rs) : Prop where
  cl : Cl wr w.heap.size g c'
  rc : Rc wr w.heap.size r R
  bel : Below w.heap.size w wr
  sim : Sim c R
  inv : Inv k c
section
variable {w wr w' : World} {g r k : Nat} {c c' : Cs} {R R' : Rs} {b : Bool}
theorem Du.on (h : Du w wr g r k c R) (hb : Below wr.heap.size wr w') : Du w w' g r k c R := ⟨h.cl.on hb, h.rc.on hb, h.bel.trans (hb.mono h.bel.size), h.sim, h.inv⟩
theorem Dv.on (h : Dv w wr g r k c c' R) (hb : Below wr.heap.size wr w') : Dv w w' g r k c c' R := ⟨h.cl.on hb, h.rc.on hb, h.bel.trans (hb.mono h.bel.size), h.sim, h.inv⟩
theorem Du.capply (h : Du w wr g r k c R) (hk : k ≤ 1000) (o : Ow) (ho : litO o = true) (tok : Int) (he : applyC c o.del o.uid o.card tok = (b, c')) :
    Calls Try.prog 16 #[.pointer (some ⟨g, 0, none⟩), .agg (opA o), .int .i64 tok] wr fun e w' => e = .returned (.bool b) ∧ Dv w w' g r k c c' R := by
  have ha := apply_any h.cl h.bel.size (h.inv.cz (by omega)) o.del o.uid o.card o.k o.v tok (by have := (litO_iff ho).2; omega)
  rw [he] at ha
  refine ha.mono ?_
  rintro _ w' ⟨rfl, h1, h2⟩
  exact ⟨rfl, h1, h.rc.keep h2 (by unfold CT; decide) (by unfold CT; decide) (by unfold CT; decide), h.bel.trans h2.below, h.sim, h.inv⟩
theorem Dv.rapply (h : Dv w wr g r k c c' R) (hk : k ≤ 1000) (o : Ow) (ho : litO o = true) (tok : Int) (he : applyC c o.del o.uid o.card tok = (b, c')) (hF : (rAp R o.del o.uid o.card tok).2 = R') :
    Calls Try.prog 17 #[.pointer (some ⟨r, 0, none⟩), .agg (opA o), .int .i64 tok] wr fun e w' => e = .returned (.bool b) ∧ Du w w' g r (k + 1) c' R' := by
  have hl := litO_iff ho
  obtain ⟨s1, s2, s3⟩ := sim_apply h.sim h.inv o.del o.uid o.card tok (by omega) (by omega)
  rw [he] at s1 s2 s3
  rw [hF] at s2
  have hn := h.inv.n
  have hr := h.inv.r
  have ha := rapply_any h.rc h.bel.size (by rw [h.sim.L]; exact h.inv.srt) (by rw [h.sim.L]; omega) (by rw [h.sim.log, ord_len]; omega) o.uid o.card o.k o.v tok o.del
  rw [hF, s1] at ha
  refine ha.mono ?_
  rintro _ w' ⟨rfl, h1, h2⟩
  exact ⟨rfl, h.cl.keep h2 (by unfold RT; decide) (by unfold RT; decide) (by unfold RT; decide) (by unfold RT; decide) (by unfold RT; decide), h1, h.bel.trans h2.below, s2, s3⟩
set_option maxHeartbeats 8000000 in
theorem same_any (h : Du w wr g r k c R) (hk : k ≤ 1000) : Calls Try.prog 18 #[.pointer (some ⟨g, 0, none⟩), .pointer (some ⟨r, 0, none⟩)] wr fun e w' => e = .returned (.bool true) ∧ Below wr.heap.size wr w' := by
  obtain ⟨L0, F, rg, mo, lm, la0, ho0, by_⟩ := c
  obtain ⟨L, lg, cd, li, la, ho⟩ := R
  obtain ⟨hc, hr, hb, hs, hi⟩ := h
  obtain ⟨e1, e2, e3, e4, e5, e6, -, -⟩ := hs
  try simp only at e1 e2 e3 e4 e5 e6
  subst e1 e2 e3 e4 e5 e6
  have hn := hi.n
  have hby := hi.by_
  try simp only at hn hby
  subst hby
  have hz : ∀ p ∈ L, p.2.2.size ≤ 1000000 := fun p hp => by have := (hi.kl p hp).2; omega
  have HC := Lib.hid (fun n => hc.on (kx_drewN (Below.refl _ _) n))
  have HR := Lib.hid (fun n => hr.on (kx_drewN (Below.refl _ _) n))
  have HZ := Lib.hid hz
  obtain ⟨VL, VG, hbx, hrow, -, -⟩ := hr
  obtain ⟨A, cap, gl, rfl, hcap, -⟩ := sk_row hrow
  have c2 := hbx.cell 2
  have c4 := hbx.cell 4
  have c5 := hbx.cell 5
  simp only [List.getElem?_toArray, List.getElem?_cons_zero, List.getElem?_cons_succ] at c2 c4 c5
  obtain ⟨n, hn'⟩ : ∃ n, L.length = n := ⟨_, rfl⟩
  obtain ⟨y, hy⟩ : ∃ y, bytesL L = y := ⟨_, rfl⟩
  have HL1 := Lib.hid (fun m => cl_len (HC.out m))
  have HL2 := Lib.hid (fun m => cl_bytes (HC.out m))
  have HL3 := Lib.hid (fun m => cl_latest (HC.out m))
  have HL4 := Lib.hid (fun m => cl_horizon (HC.out m))
  have HL5 := Lib.hid (fun m => rbytes_any (HR.out m) (by simp only; omega) HZ.out)
  simp only [hn', hy] at HL1 HL2 HL3 HL4 HL5 c2
  clear hbx hrow hc hi HC HR HZ hz
  go_enter Try.func18, Try.ntmps18
  go_wp2_with fail
  go_quiet ((first | (go_at_call 36; exact (HL1.out _).mono fun _ _ ⟨h1, h2⟩ => ⟨h1, _, h2⟩) | (go_at_call 34; exact (HL2.out _).mono fun _ _ ⟨h1, h2⟩ => ⟨h1, _, h2⟩) | (go_at_call 35; exact (HL3.out _).mono fun _ _ ⟨h1, h2⟩ => ⟨h1, _, h2⟩) | (go_at_call 37; exact (HL4.out _).mono fun _ _ ⟨h1, h2⟩ => ⟨h1, _, h2⟩) | (go_at_call 46; exact (HL5.out _).mono fun _ _ ⟨h1, h2⟩ => ⟨h1, _, h2⟩) | fail))
  go_wp2
  go_ret
  exact ⟨rfl, kx_drewN (Below.refl _ _) _⟩
end
end Go.Proofs.Ythcjbljkokflgaa
/- The law's first example. -/
namespace Go.Proofs.Ythcjbljkokflgaa
open Go.RowKit
open Go.Lib
open Go.Shelf
set_option linter.unusedVariables false
set_option linter.unusedSimpArgs false
set_option maxRecDepth 100000
def uA : ByteArray := ⟨#[97]⟩
def cA : ByteArray := ⟨#[110, 97, 109, 101, 58, 65, 110, 110, 10]⟩
def fC0 : Cs := ⟨[], 0, [], 4, 4, 5, 5, 0⟩
def fC1 : Cs := ⟨[(uA, (6, cA))], 0, [(6, uA)], 4, 4, 6, 5, 9⟩
def fC2 : Cs := ⟨[], 0, [(6, uA), (7, uA)], 4, 4, 7, 5, 0⟩
theorem f_new : newC 5 4 4 = fC0 := by rfl
theorem f_ap1 : applyC fC0 false uA cA 6 = (true, fC1) := by rfl
theorem f_ap2 : applyC fC1 true uA .empty 7 = (true, fC2) := by rfl
theorem f_sin : sin0 fC2 5 = [⟨uA, 7, true, .empty⟩] := by rfl
theorem f_z0 : Cz fC0 := ⟨by decide, by decide, fun h => absurd (by decide) h, by decide, by decide, fun k x h => by cases h⟩
theorem f_z1 : Cz fC1 := ⟨by decide, by decide, fun h => absurd (by decide) h, by decide, by decide, fun k x h => by
  have := getL_mem h
  simp only [fC1, List.mem_singleton, Prod.mk.injEq] at this
  obtain ⟨_, rfl⟩ := this
  decide⟩
theorem f_fit : FitC fC2 := ⟨fun _ => by decide, by decide, by decide, fun q h => by
  simp only [fC2, List.mem_cons, List.not_mem_nil, or_false] at h
  rcases h with rfl | rfl <;> decide, fun q h => by cases h⟩
theorem kc_cl {w w' : World} {B g : Nat} {c : Cs} (h : Cl w B g c) (hb : Below w.heap.size w w') : Cl w' B g c := h.on hb
set_option maxHeartbeats 8000000 in
theorem first_any (w : World) : Calls Try.prog 12 #[] w fun e w' => e = .returned (.bool true) ∧ Below w.heap.size w w' := by
  have HN := Lib.hid (cl_new 5 4 4 w w.heap.size (Nat.le_refl _))
  rw [f_new] at HN
  have HA1 := Lib.hid (fun (W : World) (g : Nat) (h : Cl W w.heap.size g fC0) (hB : w.heap.size ≤ W.heap.size) => show Calls Try.prog 16 #[.pointer (some ⟨g, 0, none⟩), .agg #[.bool false, .string ⟨#[97]⟩, .string ⟨#[110, 97, 109, 101, 58, 65, 110, 110, 10]⟩, .int .i64 0, .int .i64 0], .int .i64 6] W (ApP W w.heap.size g (true, fC1)) from f_ap1 ▸ apply_any h hB f_z0 false uA cA 0 0 6 (by decide))
  have HA2 := Lib.hid (fun (W : World) (g : Nat) (h : Cl W w.heap.size g fC1) (hB : w.heap.size ≤ W.heap.size) => show Calls Try.prog 16 #[.pointer (some ⟨g, 0, none⟩), .agg #[.bool true, .string ⟨#[97]⟩, .string ⟨#[]⟩, .int .i64 0, .int .i64 0], .int .i64 7] W (ApP W w.heap.size g (true, fC2)) from f_ap2 ▸ apply_any h hB f_z1 true uA .empty 0 0 7 (by decide))
  have HS5 := Lib.hid (fun (W : World) (g : Nat) (h : Cl W w.heap.size g fC2) => since_chg h f_fit (T := 5) (by decide) (by decide) (by decide))
  have HS4 := Lib.hid (fun (W : World) (g : Nat) (h : Cl W w.heap.size g fC2) => since_bad h (T := 4) (by decide) (.inl (by decide)))
  have HLT := Lib.hid (fun (W : World) (g : Nat) (h : Cl W w.heap.size g fC2) => show Calls Try.prog 35 #[.pointer (some ⟨g, 0, none⟩)] W fun e w' => e = .returned (.int .i64 7) ∧ w' = W from cl_latest h)
  have HHZ := Lib.hid (fun (W : World) (g : Nat) (h : Cl W w.heap.size g fC2) => show Calls Try.prog 37 #[.pointer (some ⟨g, 0, none⟩)] W fun e w' => e = .returned (.int .i64 5) ∧ w' = W from cl_horizon h)
  go_enter Try.func12, Try.ntmps12
  go_wp2_with fail
  refine HN.out.mono ?_
  rintro _ w1 ⟨g, rfl, h1, h2, h3⟩
  have HC := Lib.hid h1
  have HB := Lib.hid h2
  clear h1 h2 h3 HN
  go_wp2_with fail
  refine (HA1.out _ g HC.out HB.out.size).mono ?_
  rintro _ w2 ⟨rfl, h1, h2⟩
  have HC2 := Lib.hid h1
  have HB2 := Lib.hid (HB.out.trans h2.below)
  clear h1 h2 HC HB HA1
  go_wp2_with fail
  refine (HA2.out _ g HC2.out HB2.out.size).mono ?_
  rintro _ w3 ⟨rfl, h1, h2⟩
  have HC3 := Lib.hid h1
  have HB3 := Lib.hid (HB2.out.trans h2.below)
  clear h1 h2 HC2 HB2 HA2
  go_wp2_with fail
  refine (HS5.out _ g HC3.out).mono ?_
  rintro _ w4 ⟨U, ys, h1, rfl, h2, h3⟩
  have HC4 := Lib.hid (kc_cl HC3.out h3)
  have HB4 := Lib.hid (HB3.out.trans (h3.mono HB3.out.size))
  have hys : ys = [⟨uA, 7, true, .empty⟩] := List.perm_singleton.1 (f_sin ▸ h1.1)
  subst hys
  obtain ⟨A, cap, b, rfl, hI⟩ := own_its h2
  obtain ⟨rfl, -⟩ := hI.addr (by decide)
  have hcap : 1 ≤ cap := hI.le
  obtain ⟨j0, j1, j2, j3⟩ := hI.cell 0 _ rfl
  simp only [Nat.zero_mul, Nat.zero_add, Nat.add_zero] at j0 j1 j2 j3
  have i0 : w4.cell? ⟨b, 0, none⟩ = some (.string ⟨#[97]⟩) := j0
  have i1 : w4.cell? ⟨b, 1, none⟩ = some (.int .i64 7) := j1
  have i2 : w4.cell? ⟨b, 2, none⟩ = some (.bool true) := j2
  have i3 : w4.cell? ⟨b, 3, none⟩ = some (.string ⟨#[]⟩) := j3
  clear j0 j1 j2 j3
  clear h1 h2 h3 HC3 HB3 HS5 hI
  go_wp2_with fail
  refine (HS4.out _ g HC4.out).mono ?_
  rintro _ wz ⟨rfl, hw0⟩
  replace hw0 := hw0.symm
  subst hw0
  clear HS4
  go_wp2_with (first
    | (go_at_call 35; refine (HLT.out _ g HC4.out).mono ?_; rintro _ wz ⟨rfl, hw0⟩; replace hw0 := hw0.symm; subst hw0)
    | (go_at_call 37; refine (HHZ.out _ g HC4.out).mono ?_; rintro _ wz ⟨rfl, hw0⟩; replace hw0 := hw0.symm; subst hw0)
    | fail)
  go_ret
  exact ⟨rfl, HB4.out⟩
end Go.Proofs.Ythcjbljkokflgaa
/- Both behind the same writes. -/
namespace Go.Proofs.Ythcjbljkokflgaa
open Go.RowKit
open Go.Lib
set_option linter.unusedVariables false
set_option linter.unusedSimpArgs false
set_option maxRecDepth 100000
def apC (c : Cs) (a : Ak) : Cs := (applyC c a.o.del a.o.uid a.o.card a.tok).2
def apR (R : Rs) (a : Ak) : Rs := (rAp R a.o.del a.o.uid a.o.card a.tok).2
theorem take_fold {β : Type} (f : β → Ak → β) (b : β) (l : List Ak) (q : Nat) (a : Ak) (h : l[q]? = some a) : (l.take (q + 1)).foldl f b = f ((l.take q).foldl f b) a := by rw [List.take_add_one, h]; simp
theorem Du.drewN {w wr : World} {g r k : Nat} {c : Cs} {R : Rs} (h : Du w wr g r k c R) (n : Nat) : Du w (wr.drewN n) g r k c R := h.on (kx_drewN (Below.refl _ _) n)
theorem Du.drew {w wr : World} {g r k : Nat} {c : Cs} {R : Rs} (h : Du w wr g r k c R) : Du w wr.drew g r k c R := h.on (Below.refl _ _).drew
theorem Dv.drew {w wr : World} {g r k : Nat} {c c' : Cs} {R : Rs} (h : Dv w wr g r k c c' R) : Dv w wr.drew g r k c c' R := h.on (Below.refl _ _).drew
theorem Du.new {w w1 w2 : World} {g : Nat} {birth cards log : Int} (h1 : Cl w1 w.heap.size g (newC birth cards log)) (h2 : Below w.heap.size w w1) (h3 : Rc w2 w.heap.size w1.heap.size (rnewC birth cards log)) (h4 : Below w1.heap.size w1 w2) : Du w w2 g w1.heap.size 0 (newC birth cards log) (rnewC birth cards log) :=
  ⟨h1.on h4, h3, h2.trans (h4.mono h2.size), sim_new birth cards log, inv_new birth cards log⟩
set_option maxHeartbeats 8000000 in
theorem made_any {w : World} {A3 : Option Addr} {len3 cap3 b3 off3 : Nat} {l : List Ak} (h : Aks w A3 len3 cap3 b3 off3 l) (hl : actsL l = true) (birth cards log : Int) : Calls Try.prog 25 #[.int .i64 birth, .int .i64 cards, .int .i64 log, .slice A3 len3 cap3] w fun e w' => ∃ g r, e = .returned (.tuple #[.pointer (some ⟨g, 0, none⟩), .pointer (some ⟨r, 0, none⟩)]) ∧ Du w w' g r l.length (l.foldl apC (newC birth cards log)) (l.foldl apR (rnewC birth cards log)) := by
  have HA := Lib.hid h
  have HLI := Lib.hid (actsL_iff hl)
  have hlen := h.hlen
  have hlc := h.le
  have hn80 : (len3 : Int) ≤ 80 := by have := HLI.out.1; omega
  have HCN := Lib.hid (cl_new birth cards log w w.heap.size (Nat.le_refl _))
  obtain ⟨c0, hc0⟩ : ∃ c, newC birth cards log = c := ⟨_, rfl⟩
  obtain ⟨R0, hR0⟩ : ∃ c, rnewC birth cards log = c := ⟨_, rfl⟩
  have HE0 := Lib.hid (show newC birth cards log = c0 ∧ rnewC birth cards log = R0 from ⟨hc0, hR0⟩)
  rw [hc0, hR0]
  clear h hl hc0 hR0
  go_enter Try.func25, Try.ntmps25
  go_wp2_with fail
  refine HCN.out.mono ?_
  rintro _ w1 ⟨g, rfl, h1, h2, h3⟩
  have HC1 := Lib.hid h1
  have HB1 := Lib.hid h2
  have HRN := Lib.hid (rc_new birth cards log w1 w.heap.size h2.size)
  clear h1 h2 h3 HCN
  go_wp2_with fail
  refine HRN.out.mono ?_
  rintro _ w2 ⟨rfl, h1, h2⟩
  obtain ⟨r, hr⟩ : ∃ r, w1.heap.size = r := ⟨_, rfl⟩
  have HD0 := Lib.hid (show Du w w2 g r 0 c0 R0 from hr ▸ HE0.out.1 ▸ HE0.out.2 ▸ Du.new HC1.out HB1.out h1 h2)
  rw [hr]
  clear h1 h2 HRN hr HC1 HB1
  go_wp2
  go_loopw [12] (fun i wr => ∃ q : Nat, q ≤ len3 ∧ i = .int .i64 (q : Int) ∧ Du w wr g r q ((l.take q).foldl apC c0) ((l.take q).foldl apR R0)) (fun i _ => len3 - (intOf i).toNat)
  case atStart => exact ⟨0, Nat.zero_le _, rfl, HD0.out⟩
  case round =>
    obtain ⟨q, hq, rfl, hD⟩ := hrel
    have HD := Lib.hid hD
    clear hD
    by_cases hql : q < len3
    · obtain ⟨a, ha⟩ : ∃ a, l[q]? = some a := ⟨l[q]'(by rw [HA.out.hlen]; exact hql), List.getElem?_eq_getElem _⟩
      have HLA := Lib.hid (HLI.out.2 a (List.mem_of_getElem? ha))
      have HAT := Lib.hid (fun (wr : World) (hb : Below w.heap.size w wr) => HA.out.at_ hb ha)
      obtain ⟨rfl, hbl⟩ := HA.out.addr' ha
      have HFC := Lib.hid (take_fold apC c0 l q a ha)
      have HFR := Lib.hid (take_fold apR R0 l q a ha)
      have hq100 : q ≤ 1000 := by omega
      have hqI : (q : Int) < (len3 : Int) := by omega
      obtain ⟨cq, hcq⟩ : ∃ c, (l.take q).foldl apC c0 = c := ⟨_, rfl⟩
      obtain ⟨Rq, hRq⟩ : ∃ c, (l.take q).foldl apR R0 = c := ⟨_, rfl⟩
      rw [hcq] at HD HFC
      rw [hRq] at HD HFR
      obtain ⟨⟨d, u, c, k, v⟩, tok⟩ := a
      simp only at HAT
      have HAP := Lib.hid (show applyC cq d u c tok = ((applyC cq d u c tok).1, apC cq ⟨⟨d, u, c, k, v⟩, tok⟩) from rfl)
      obtain ⟨bq, hbq⟩ : ∃ x, (applyC cq d u c tok).1 = x := ⟨_, rfl⟩
      rw [hbq] at HAP
      clear ha hcq hRq hbq hbl
      have HCA := Lib.hid (HD.out.drew.capply hq100 ⟨d, u, c, k, v⟩ HLA.out tok HAP.out)
      try simp only [opA] at HCA
      obtain ⟨e0, e1, e2, e3, e4, e5⟩ := HAT.out wr HD.out.bel
      go_wp2_with fail
      go_region_held3 (fun W => W.cell? ⟨b3, off3 + q * 6, none⟩ = some (.bool d) ∧ W.cell? ⟨b3, off3 + q * 6 + 1, none⟩ = some (.string u) ∧ W.cell? ⟨b3, off3 + q * 6 + 2, none⟩ = some (.string c) ∧ W.cell? ⟨b3, off3 + q * 6 + 3, none⟩ = some (.int .i64 k) ∧ W.cell? ⟨b3, off3 + q * 6 + 4, none⟩ = some (.int .i64 v) ∧ W.cell? ⟨b3, off3 + q * 6 + 5, none⟩ = some (.int .i64 tok)) (refine ⟨?_, ?_, ?_, ?_, ?_, ?_⟩ <;> assumption) (first
        | (go_at_call 16
           (with_reducible refine HCA.out.mono ?_)
           clear HCA
           rintro _ w6 ⟨rfl, hs6⟩
           have HS6 := Lib.hid hs6
           obtain ⟨f0, f1, f2, f3, f4, f5⟩ := HAT.out w6 hs6.bel
           clear hs6)
        | fail)
      all_goals (
        clear e0 e1 e2 e3 e4 e5
        have HRA := Lib.hid (HS6.out.drew.rapply hq100 ⟨d, u, c, k, v⟩ HLA.out tok HAP.out (show _ = apR Rq ⟨⟨d, u, c, k, v⟩, tok⟩ from rfl))
        try simp only [opA] at HRA
        go_wp2_with fail
        go_region_held3 (fun W => W.cell? ⟨b3, off3 + q * 6, none⟩ = some (.bool d) ∧ W.cell? ⟨b3, off3 + q * 6 + 1, none⟩ = some (.string u) ∧ W.cell? ⟨b3, off3 + q * 6 + 2, none⟩ = some (.string c) ∧ W.cell? ⟨b3, off3 + q * 6 + 3, none⟩ = some (.int .i64 k) ∧ W.cell? ⟨b3, off3 + q * 6 + 4, none⟩ = some (.int .i64 v) ∧ W.cell? ⟨b3, off3 + q * 6 + 5, none⟩ = some (.int .i64 tok)) (refine ⟨?_, ?_, ?_, ?_, ?_, ?_⟩ <;> assumption) (first
          | (go_at_call 17
             (with_reducible refine HRA.out.mono ?_)
             clear HRA
             rintro _ w7 ⟨rfl, hs7⟩
             have HS7 := Lib.hid hs7
             obtain ⟨h0, h1, h2, h3, h4, h5⟩ := HAT.out w7 hs7.bel
             clear hs7)
          | fail)
        all_goals (
          clear f0 f1 f2 f3 f4 f5 h0 h1 h2 h3 h4 h5
          go_wp2
          go_roundw
          case rel => exact ⟨q + 1, by omega, by go_num, by rw [HFC.out, HFR.out]; exact HS7.out⟩
          case measure => simp [intOf]; omega))
    · obtain rfl : q = len3 := by omega
      have HT := Lib.hid (show l.take q = l from List.take_of_length_le (by omega))
      go_wp2
      go_ret2
      exact ⟨g, r, rfl, by have := HD.out; rw [HT.out] at this; rwa [HA.out.hlen]⟩
end Go.Proofs.Ythcjbljkokflgaa
namespace Go.Proofs.Ythcjbljkokflgaa
open Go.RowKit
open Go.Lib
open Go.Shelf
set_option linter.unusedVariables false
set_option linter.unusedSimpArgs false
set_option maxRecDepth 100000
set_option maxHeartbeats 16000000 in
theorem colPlays_walk (w : World) (a0 : Int) (w0 : (Lit.int .i64 a0).wf = true) (a1 : Int) (w1 : (Lit.int .i64 a1).wf = true) (a2 : Int) (w2 : (Lit.int .i64 a2).wf = true) (A3 : Option Addr) (len3 cap3 : Nat) (S3 : Sh.ok w (Sh.slice 6 (Sh.agg 6 [(0, 5, (Sh.agg 5 [(0, 1, Sh.bool), (1, 1, Sh.str), (2, 1, Sh.str), (3, 2, (Sh.agg 2 [(0, 1, (Sh.int .i64)), (1, 1, (Sh.int .i64))]))])), (5, 1, (Sh.int .i64))])) [.slice A3 len3 cap3]) :
    Calls Try.prog 3 #[.int .i64 a0, .int .i64 a1, .int .i64 a2, .slice A3 len3 cap3] w fun e w' => e = .returned (.bool true) ∧ Below w.heap.size w w' := by
  obtain ⟨b3, off3, l, hA⟩ := Aks_open S3
  have HA := Lib.hid hA
  clear S3 hA w0 w1 w2
  go_enter Try.func3, Try.ntmps3
  go_wp2_with fail
  refine (first_any w).mono ?_
  rintro _ w1 ⟨rfl, hb⟩
  have HB1 := Lib.hid hb
  have HA1 := Lib.hid (HA.out.on hb)
  have HL := Lib.hid (acts_any HA1.out)
  clear hb
  obtain ⟨y, hy⟩ : ∃ y, actsL l = y := ⟨_, rfl⟩
  have HY := Lib.hid hy
  rw [hy] at HL
  clear hy
  go_wp2_with fail
  refine HL.out.mono ?_
  rintro _ w2 ⟨rfl, hb⟩
  have HB2 := Lib.hid (HB1.out.trans (hb.mono HB1.out.size))
  have HA2 := Lib.hid (HA1.out.on hb)
  clear hb HL
  cases y with
  | false =>
    go_wp2_with fail
    refine (first_any w2).mono ?_
    rintro _ w3 ⟨rfl, hb⟩
    have HB3 := Lib.hid (HB2.out.trans (hb.mono HB2.out.size))
    clear hb
    go_wp2
    go_ret
    exact ⟨rfl, HB3.out⟩
  | true =>
    have HLI := Lib.hid (actsL_iff HY.out)
    have hlen := HA2.out.hlen
    have hlc := HA2.out.le
    have hn80 : (len3 : Int) ≤ 80 := by have := HLI.out.1; omega
    have HCN := Lib.hid (cl_new a0 a1 a2 w2 w2.heap.size (Nat.le_refl _))
    obtain ⟨c0, hc0⟩ : ∃ c, newC a0 a1 a2 = c := ⟨_, rfl⟩
    obtain ⟨R0, hR0⟩ : ∃ c, rnewC a0 a1 a2 = c := ⟨_, rfl⟩
    have HE0 := Lib.hid (show newC a0 a1 a2 = c0 ∧ rnewC a0 a1 a2 = R0 from ⟨hc0, hR0⟩)
    clear HY hc0 hR0
    go_wp2_with fail
    refine HCN.out.mono ?_
    rintro _ w3 ⟨g, rfl, h1, h2, h3⟩
    have HC1 := Lib.hid h1
    have HBB := Lib.hid h2
    have HRN := Lib.hid (rc_new a0 a1 a2 w3 w2.heap.size h2.size)
    clear h1 h2 h3 HCN
    go_wp2_with fail
    refine HRN.out.mono ?_
    rintro _ w4 ⟨rfl, h1, h2⟩
    obtain ⟨r, hr⟩ : ∃ r, w3.heap.size = r := ⟨_, rfl⟩
    have HD0 := Lib.hid (show Du w2 w4 g r 0 c0 R0 from hr ▸ HE0.out.1 ▸ HE0.out.2 ▸ Du.new HC1.out HBB.out h1 h2)
    rw [hr]
    clear h1 h2 HRN hr HC1 HBB
    go_wp2
    go_loopw [11] (fun i wr => ∃ (q : Nat) (c : Cs) (R : Rs), q ≤ len3 ∧ i = .int .i64 (q : Int) ∧ Du w2 wr g r q c R) (fun i _ => len3 - (intOf i).toNat)
    case atStart => exact ⟨0, c0, R0, Nat.zero_le _, rfl, HD0.out⟩
    case round =>
      obtain ⟨q, cq, Rq, hq, rfl, hD⟩ := hrel
      have HD := Lib.hid hD
      clear hD
      by_cases hql : q < len3
      · obtain ⟨a, ha⟩ : ∃ a, l[q]? = some a := ⟨l[q]'(by rw [HA2.out.hlen]; exact hql), List.getElem?_eq_getElem _⟩
        have HLA := Lib.hid (HLI.out.2 a (List.mem_of_getElem? ha))
        have HAT := Lib.hid (fun (wr : World) (hb : Below w2.heap.size w2 wr) => HA2.out.at_ hb ha)
        obtain ⟨rfl, hbl⟩ := HA2.out.addr' ha
        have hq100 : q ≤ 1000 := by omega
        have hqI : (q : Int) < (len3 : Int) := by omega
        obtain ⟨⟨d, u, c, k, v⟩, tok⟩ := a
        simp only at HAT
        obtain ⟨cn, hcn⟩ : ∃ x, (applyC cq d u c tok).2 = x := ⟨_, rfl⟩
        obtain ⟨Rn, hRn⟩ : ∃ x, (rAp Rq d u c tok).2 = x := ⟨_, rfl⟩
        obtain ⟨bq, hbq⟩ : ∃ x, (applyC cq d u c tok).1 = x := ⟨_, rfl⟩
        have HAP := Lib.hid (show applyC cq d u c tok = (bq, cn) from by rw [← hcn, ← hbq])
        have HRN := Lib.hid hRn
        clear ha hcn hRn hbq hbl
        have HCA := Lib.hid (HD.out.drew.capply hq100 ⟨d, u, c, k, v⟩ HLA.out tok HAP.out)
        try simp only [opA] at HCA
        obtain ⟨e0, e1, e2, e3, e4, e5⟩ := HAT.out wr HD.out.bel
        go_wp2_with fail
        go_region_held3 (fun W => W.cell? ⟨b3, off3 + q * 6, none⟩ = some (.bool d) ∧ W.cell? ⟨b3, off3 + q * 6 + 1, none⟩ = some (.string u) ∧ W.cell? ⟨b3, off3 + q * 6 + 2, none⟩ = some (.string c) ∧ W.cell? ⟨b3, off3 + q * 6 + 3, none⟩ = some (.int .i64 k) ∧ W.cell? ⟨b3, off3 + q * 6 + 4, none⟩ = some (.int .i64 v) ∧ W.cell? ⟨b3, off3 + q * 6 + 5, none⟩ = some (.int .i64 tok)) (refine ⟨?_, ?_, ?_, ?_, ?_, ?_⟩ <;> assumption) (first
          | (go_at_call 16
             (with_reducible refine HCA.out.mono ?_)
             clear HCA
             rintro _ w6 ⟨rfl, hs6⟩
             have HS6 := Lib.hid hs6
             have HRA := Lib.hid (hs6.rapply hq100 ⟨d, u, c, k, v⟩ HLA.out tok HAP.out HRN.out)
             try simp only [opA] at HRA
             obtain ⟨f0, f1, f2, f3, f4, f5⟩ := HAT.out w6 hs6.bel
             clear hs6)
          | (go_at_call 17
             (with_reducible refine HRA.out.mono ?_)
             clear HRA
             rintro _ w7 ⟨rfl, hs7⟩
             have HS7 := Lib.hid hs7
             obtain ⟨h0, h1, h2, h3, h4, h5⟩ := HAT.out w7 hs7.bel
             clear hs7)
          | (go_at_call 18
             (with_reducible refine (same_any HS7.out (by omega)).mono ?_)
             rintro _ w8 ⟨rfl, hs8⟩
             have HS8 := Lib.hid (HS7.out.on hs8)
             obtain ⟨k0, k1, k2, k3, k4, k5⟩ := HAT.out w8 HS8.out.bel
             clear hs8 HS7)
          | fail)
        all_goals (
          clear k0 k1 k2 k3 k4 k5 e0 e1 e2 e3 e4 e5 f0 f1 f2 f3 f4 f5 h0 h1 h2 h3 h4 h5
          obtain ⟨k0, k1, k2, k3, k4, k5⟩ := HAT.out w8 HS8.out.bel
          clear k0 k2 k3 k4 k5
          obtain ⟨o, ho⟩ : ∃ o, getL u cn.L = o := ⟨_, rfl⟩
          have HG1 := Lib.hid (cl_get HS8.out.cl u o ho)
          have HOO := Lib.hid ho
          obtain ⟨x1, hx1⟩ : ∃ x, (o.getD (0, .empty)).1 = x := ⟨_, rfl⟩
          obtain ⟨x2, hx2⟩ : ∃ x, (o.getD (0, .empty)).2 = x := ⟨_, rfl⟩
          obtain ⟨x3, hx3⟩ : ∃ x, o.isSome = x := ⟨_, rfl⟩
          have HX := Lib.hid (show (o.getD (0, .empty)).1 = x1 ∧ (o.getD (0, .empty)).2 = x2 ∧ o.isSome = x3 from ⟨hx1, hx2, hx3⟩)
          rw [hx1, hx2, hx3] at HG1
          clear ho hx1 hx2 hx3
          go_wp2_with fail
          refine HG1.out.mono ?_
          rintro _ w9 ⟨rfl, hb9⟩
          have HS9 := Lib.hid (HS8.out.on hb9)
          obtain ⟨-, k1', -, -, -, -⟩ := HAT.out w9 HS9.out.bel
          have HG2 := Lib.hid (rget_any HS9.out.rc (by rw [HS9.out.sim.L]; exact HS9.out.inv.srt) (by rw [HS9.out.sim.L]; have := HS9.out.inv.n; omega) u o (by rw [HS9.out.sim.L]; exact HOO.out))
          rw [HX.out.1, HX.out.2.1, HX.out.2.2] at HG2
          clear hb9 HG1 k1
          go_wp2_with fail
          refine HG2.out.mono ?_
          rintro _ w10 ⟨rfl, nq, rfl⟩
          have HS10 := Lib.hid (HS9.out.drewN nq)
          clear HG2
          go_wp2
          go_roundw
          case rel => exact ⟨q + 1, cn, Rn, by omega, by go_num, HS10.out⟩
          case measure => simp [intOf]; omega)
      · obtain rfl : q = len3 := by omega
        have hq100 : q ≤ 1000 := by omega
        have HSA := Lib.hid (same_any HD.out hq100)
        go_wp2_with fail
        refine HSA.out.mono ?_
        rintro _ w8 ⟨rfl, hs8⟩
        have HS8 := Lib.hid (HD.out.on hs8)
        clear hs8 HSA
        have HLV := Lib.hid (live_any HS8.out.cl (HS8.out.inv.fit (by omega)).hl (HS8.out.inv.fit (by omega)).kl)
        go_wp2_with fail
        refine HLV.out.mono ?_
        rintro _ wx ⟨U, rfl, hu1, hu2⟩
        have HU := Lib.hid hu1
        have HUB := Lib.hid hu2
        have HRV := Lib.hid (rlive_any (HS8.out.on hu2).rc (by rw [HS8.out.sim.L]; have := HS8.out.inv.n; omega))
        rw [HS8.out.sim.L] at HRV
        clear hu1 hu2 HLV
        go_wp2_with fail
        refine HRV.out.mono ?_
        rintro _ wy ⟨U2, rfl, hu1, hu2⟩
        obtain ⟨A1, cap1, b1, rfl, hi1, -⟩ := own_its2 (xs := itsK cq.L) (by rw [itsK_len]; exact own_below HU.out hu2)
        obtain ⟨A2, cap2, b2, rfl, hi2, -⟩ := own_its2 (xs := itsK cq.L) (by rw [itsK_len]; exact hu1)
        have HAL := Lib.hid (alike_any hi1 hi2 (by rw [itsK_len]; have := HS8.out.inv.n; omega))
        have HUC := Lib.hid (HUB.out.trans (hu2.mono HUB.out.size))
        clear hu1 hu2 HRV hi1 hi2
        go_wp2_with fail
        refine HAL.out.mono ?_
        rintro _ wz ⟨rfl, hz⟩
        have HBI := Lib.hid (HUC.out.trans (hz.mono HUC.out.size))
        clear hz HAL
        go_wp2
        go_ret
        exact ⟨rfl, HB2.out.trans ((HS8.out.bel.trans (HBI.out.mono HS8.out.bel.size)).mono HB2.out.size)⟩
end Go.Proofs.Ythcjbljkokflgaa
