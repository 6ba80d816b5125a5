/- The collection: item, Live. -/
import Derived.Test.YthcjbljkokflgaaZaf
import Derived.Test.YthcjbljkokflgaaZaa
import Derived.Test.YthcjbljkokflgaaZae
import Derived.OwnWalk
import Derived.Laws.AppendOwn
import Derived.BigQuiet
import Derived.RegionTactic
import Derived.Deep.QuietTactic
import Derived.Test.YthcjbljkokflgaaProg
import Derived.Deep.Upon
import Derived.Lib.Hide
import Derived.KernelRfl
import Derived.Sort.Grow
import Derived.RangeFuncNested
import Derived.RangeFuncBox
import Derived.RangeFuncCalls
import Derived.Shelf.RegionOpen
import Derived.OwnWalkIn
import Derived.TacticsInMore
set_option linter.unnecessarySimpa false
/- A collection: what it is; New, Len, Bytes, Latest, Horizon, Get. -/
namespace Go.Proofs.Ythcjbljkokflgaa
open Go.RowKit
open Go.Lib
set_option linter.unusedVariables false
set_option linter.unusedSimpArgs false
set_option maxRecDepth 100000
abbrev LK := List (ByteArray × (Int × ByteArray))
structure Cs where
  L : LK
  F : Nat
  ring : List Chg
  most : Int
  lmost : Int
  latest : Int
  horizon : Int
  bytes : Int
/-- A collection's own kinds. -/
def CT (t : TypeId) : Prop := t = 74 ∨ t = 105 ∨ t = 108 ∨ t = 72
def MT (t : TypeId) : Prop := t = 105
def GT (t : TypeId) : Prop := t = 74
theorem ct_pt (t : TypeId) (h : PT t) : CT t := by rcases h with h | h; exact .inr (.inr (.inl h)); exact .inr (.inr (.inr h))
theorem ct_mt (t : TypeId) (h : MT t) : CT t := .inr (.inl h)
theorem ct_gt (t : TypeId) (h : GT t) : CT t := .inl h
theorem kc_ko {B : Nat} {w w' : World} {m : Nat} {L : LK} (h : OC.Ko w w' m) (hO : OC.Om w m L) (hB : B ≤ m) (hs : B ≤ w.heap.size) : Kc MT B w w' :=
  ⟨h.os, h.tape, h.output, h.size, fun j hj => h.block j (by omega) (by omega), fun j t cs hb h1 => (h.block j hb.lt (fun e => by
    obtain ⟨p, hp⟩ := hO.box
    subst e
    unfold Blk at hb hp
    rw [hb] at hp
    cases hp
    exact h1 rfl)).trans hb⟩
theorem om_keep {T : TypeId → Prop} {B : Nat} {w w' : World} {m : Nat} {L : LK} (h : OC.Om w m L) (k : Kc T B w w') (h1 : ¬ T 105) (h2 : ¬ T 110) : OC.Om w' m L := by
  obtain ⟨p, hp⟩ := h.box
  exact h.keep ((k.far m _ _ hp h1).trans (Eq.symm hp)) (fun b cs hb => k.far b _ _ hb h2)
/-- A collection: its box, its map, its ring. -/
def Cl (w : World) (B g : Nat) (c : Cs) : Prop := ∃ m R, Blk w g 74 #[.pointer (some ⟨m, 0, none⟩), .pointer (some ⟨R, 0, none⟩), .int .i64 c.most, .int .i64 c.bytes, .int .i64 c.latest, .int .i64 c.horizon] ∧ OC.Om w m c.L ∧ Rg w B R c.lmost c.F c.ring ∧ B ≤ g ∧ B ≤ m
theorem Cl.keep {T : TypeId → Prop} {B B' g : Nat} {w w' : World} {c : Cs} (h : Cl w B g c) (k : Kc T B' w w') (h1 : ¬ T 74) (h2 : ¬ T 105) (h3 : ¬ T 108) (h4 : ¬ T 72) (h5 : ¬ T 110) : Cl w' B g c := by
  obtain ⟨m, R, e1, e2, e3, e4, e5⟩ := h
  exact ⟨m, R, k.far g _ _ e1 h1, om_keep e2 k h2 h5, e3.keep k h3 h4, e4, e5⟩
theorem Cl.on {B g : Nat} {w w' : World} {c : Cs} (h : Cl w B g c) (hb : Below w.heap.size w w') : Cl w' B g c := by
  obtain ⟨m, R, e1, e2, e3, e4, e5⟩ := h
  exact ⟨m, R, e1.below hb e1.lt, e2.below hb, e3.below hb, e4, e5⟩
def newC (birth cards log : Int) : Cs := ⟨[], 0, [], max cards 1, max log 1, birth, birth, 0⟩
theorem cl_new (birth cards log : Int) (w : World) (B : Nat) (hB : B ≤ w.heap.size) : Calls Try.prog 14 #[.int .i64 birth, .int .i64 cards, .int .i64 log] w fun e w' => ∃ g, e = .returned (.pointer (some ⟨g, 0, none⟩)) ∧ Cl w' B g (newC birth cards log) ∧ Below w.heap.size w w' ∧ w.heap.size ≤ g := by
  have HN := Lib.hid (OC.om_new w)
  have HR := Lib.hid (fun W (hb : B ≤ W.heap.size) => rg_new log W B hb)
  obtain ⟨mx, hmx⟩ : ∃ x, max cards 1 = x := ⟨_, rfl⟩
  have HMX := Lib.hid hmx
  clear hmx
  go_enter Try.func14, Try.ntmps14
  go_wp2_with fail
  refine HN.out.mono ?_
  rintro _ w1 ⟨m, rfl, h1, h2, h3⟩
  have H1 := Lib.hid h1
  have H2 := Lib.hid h2
  have H3 := Lib.hid h3
  have hB1 : B ≤ w1.heap.size := by have := h2.size; omega
  clear h1 h2 h3 HN
  go_wp2_with fail
  refine (HR.out _ hB1).mono ?_
  rintro _ w2 ⟨rfl, h1, h2⟩
  have H4 := Lib.hid h1
  have H5 := Lib.hid h2
  clear h1 h2
  go_wp2
  all_goals (
    go_ret
    have hb : ∀ o, Below w2.heap.size w2 (w2.alloc o) := fun o => (Below.refl _ w2).alloc (Nat.le_refl _) _
    have h12 := H5.out.size
    have h01 := H2.out.size
    refine ⟨w2.heap.size, rfl, ⟨m, w1.heap.size, ?_, (H1.out.below H5.out).below (hb _), H4.out.below (hb _), by omega, by have := H3.out; omega⟩, (H2.out.trans (H5.out.mono h01)).trans ((hb _).mono (by omega)), by omega⟩
    show Blk _ _ 74 #[_, _, .int .i64 (max cards 1), _, _, _]
    rw [HMX.out]
    first
      | exact Blk.new _ _ _
      | (rw [show mx = 1 by have := HMX.out; omega]; exact Blk.new _ _ _)
      | (rw [show mx = cards by have := HMX.out; omega]; exact Blk.new _ _ _))
theorem cl_bytes {w : World} {B g : Nat} {c : Cs} (h : Cl w B g c) : Calls Try.prog 34 #[.pointer (some ⟨g, 0, none⟩)] w fun e w' => e = .returned (.int .i64 c.bytes) ∧ w' = w := by
  obtain ⟨m, R, e1, e2, e3, e4, e5⟩ := h
  have c3 := e1.cell 3
  simp only [List.getElem?_toArray, List.getElem?_cons_zero, List.getElem?_cons_succ] at c3
  clear e1 e2 e3
  go_enter Try.func34, Try.ntmps34
  go_wp2
  go_ret
  exact ⟨rfl, rfl⟩
theorem cl_latest {w : World} {B g : Nat} {c : Cs} (h : Cl w B g c) : Calls Try.prog 35 #[.pointer (some ⟨g, 0, none⟩)] w fun e w' => e = .returned (.int .i64 c.latest) ∧ w' = w := by
  obtain ⟨m, R, e1, e2, e3, e4, e5⟩ := h
  have c4 := e1.cell 4
  simp only [List.getElem?_toArray, List.getElem?_cons_zero, List.getElem?_cons_succ] at c4
  clear e1 e2 e3
  go_enter Try.func35, Try.ntmps35
  go_wp2
  go_ret
  exact ⟨rfl, rfl⟩
theorem cl_horizon {w : World} {B g : Nat} {c : Cs} (h : Cl w B g c) : Calls Try.prog 37 #[.pointer (some ⟨g, 0, none⟩)] w fun e w' => e = .returned (.int .i64 c.horizon) ∧ w' = w := by
  obtain ⟨m, R, e1, e2, e3, e4, e5⟩ := h
  have c5 := e1.cell 5
  simp only [List.getElem?_toArray, List.getElem?_cons_zero, List.getElem?_cons_succ] at c5
  clear e1 e2 e3
  go_enter Try.func37, Try.ntmps37
  go_wp2
  go_ret
  exact ⟨rfl, rfl⟩
theorem cl_len {w : World} {B g : Nat} {c : Cs} (h : Cl w B g c) : Calls Try.prog 36 #[.pointer (some ⟨g, 0, none⟩)] w fun e w' => e = .returned (.int .i64 (c.L.length : Int)) ∧ w' = w := by
  obtain ⟨m, R, e1, e2, e3, e4, e5⟩ := h
  have c0 := e1.cell 0
  simp only [List.getElem?_toArray, List.getElem?_cons_zero, List.getElem?_cons_succ] at c0
  have HL := Lib.hid (OC.om_len e2)
  clear e1 e2 e3
  go_enter Try.func36, Try.ntmps36
  go_wp2_with fail
  refine HL.out.mono ?_
  rintro _ w1 ⟨rfl, hw⟩
  replace hw := hw.symm
  subst hw
  go_wp2
  go_ret
  exact ⟨rfl, rfl⟩
theorem cl_get {w : World} {B g : Nat} {c : Cs} (h : Cl w B g c) (k : ByteArray) (o : Option (Int × ByteArray)) (ho : getL k c.L = o) : Calls Try.prog 19 #[.pointer (some ⟨g, 0, none⟩), .string k] w fun e w' => e = .returned (.tuple #[.int .i64 (o.getD (0, .empty)).1, .string (o.getD (0, .empty)).2, .bool o.isSome]) ∧ Below w.heap.size w w' := by
  obtain ⟨m, R, e1, e2, e3, e4, e5⟩ := h
  have c0 := e1.cell 0
  simp only [List.getElem?_toArray, List.getElem?_cons_zero, List.getElem?_cons_succ] at c0
  have HG := Lib.hid (OC.om_get e2 k o ho)
  obtain ⟨x, hx⟩ : ∃ x, o.getD (0, .empty) = x := ⟨_, rfl⟩
  have HO : Hid (OC.ov o = .agg #[.int .i64 x.1, .string x.2]) := Lib.hid (by unfold OC.ov; rw [hx])
  rw [HO.out] at HG
  rw [hx]
  clear e1 e2 e3 ho hx HO
  go_enter Try.func19, Try.ntmps19
  go_wp2_with fail
  refine HG.out.mono ?_
  rintro _ w1 ⟨rfl, hb⟩
  have HB := Lib.hid hb
  clear hb
  go_wp2
  go_quiet (fail)
  go_wp2
  go_ret3
  exact ⟨rfl, kx_drewN (HB.out.alloc HB.out.size _) _⟩
end Go.Proofs.Ythcjbljkokflgaa
/- Items: where they lie, are they alike (for a seat without LightResp). -/
namespace Go.Proofs.Ythcjbljkokflgaa
open Go.RowKit
open Go.Lib
set_option linter.unusedVariables false
set_option linter.unusedSimpArgs false
set_option maxRecDepth 20000
structure It where
  u : ByteArray
  v : Int
  x : Bool
  c : ByteArray
/-- Items that lie in memory, four cells each. -/
structure Its (w : World) (A : Option Addr) (len cap b off : Nat) (xs : List It) : Prop where
  hlen : xs.length = len
  le : len ≤ cap
  addr : 0 < len → A = some ⟨b, off, none⟩ ∧ b < w.heap.size
  cell : ∀ (j : Nat) (t : It), xs[j]? = some t → w.cell? ⟨b, off + j * 4, none⟩ = some (.string t.u) ∧ w.cell? ⟨b, off + j * 4 + 1, none⟩ = some (.int .i64 t.v) ∧ w.cell? ⟨b, off + j * 4 + 2, none⟩ = some (.bool t.x) ∧ w.cell? ⟨b, off + j * 4 + 3, none⟩ = some (.string t.c)
theorem Its.below {w w' : World} {A : Option Addr} {len cap b off B : Nat} {xs : List It} (h : Its w A len cap b off xs) (hb : Below B w w') (hB : 0 < len → b < B) : Its w' A len cap b off xs :=
  ⟨h.hlen, h.le, fun hl => ⟨(h.addr hl).1, Nat.lt_of_lt_of_le (h.addr hl).2 hb.size⟩, fun j t hj => by
    have hlt : j < xs.length := (List.getElem?_eq_some_iff.1 hj).1
    have hbb := hB (by have := h.hlen; omega)
    obtain ⟨h1, h2, h3, h4⟩ := h.cell j t hj
    exact ⟨by rw [hb.cell (p := ⟨b, _, none⟩) hbb]; exact h1, by rw [hb.cell (p := ⟨b, _, none⟩) hbb]; exact h2, by rw [hb.cell (p := ⟨b, _, none⟩) hbb]; exact h3, by rw [hb.cell (p := ⟨b, _, none⟩) hbb]; exact h4⟩⟩
def itC (t : It) : List Value := [.string t.u, .int .i64 t.v, .bool t.x, .string t.c]
def itsC (xs : List It) : List Value := (xs.map itC).flatten
theorem itsC_len (xs : List It) : (itsC xs).length = xs.length * 4 := by
  induction xs with
  | nil => rfl
  | cons t xs ih => unfold itsC at *; simp only [List.map_cons, List.flatten_cons, List.length_append, List.length_cons, ih]; simp [itC]; omega
theorem itsC_snoc (xs : List It) (t : It) : itsC (xs ++ [t]) = itsC xs ++ itC t := by unfold itsC; simp
theorem itsC_get : ∀ (xs : List It) (j : Nat) (t : It), xs[j]? = some t → ∀ i, i < 4 → (itsC xs)[j * 4 + i]? = (itC t)[i]?
  | [], j, t, h => by simp at h
  | y :: xs, 0, t, h => fun i hi => by
    simp at h; subst h
    have hl : (itC y).length = 4 := rfl
    show ((itC y) ++ itsC xs)[0 * 4 + i]? = _
    rw [Nat.zero_mul, Nat.zero_add, List.getElem?_append_left (by omega)]
  | y :: xs, j + 1, t, h => fun i hi => by
    have hl : (itC y).length = 4 := rfl
    show ((itC y) ++ itsC xs)[(j + 1) * 4 + i]? = _
    rw [List.getElem?_append_right (by omega), hl, show (j + 1) * 4 + i - 4 = j * 4 + i by omega]
    exact itsC_get xs j t (by simpa using h) i hi
theorem own_its {w : World} {base : Nat} {v : Value} {xs : List It} (h : w.ownsRow base 62 4 v xs.length (itsC xs)) : ∃ A cap b, v = .slice A xs.length cap ∧ Its w A xs.length cap b 0 xs := by
  obtain ⟨h1, ⟨rfl, h2⟩ | ⟨g, cap, cur, rfl, hg, hh, hc, hm, hcs, ht⟩⟩ := h
  · have : xs = [] := List.length_eq_zero_iff.1 h2
    subst this
    exact ⟨none, 0, 0, rfl, ⟨rfl, Nat.le_refl _, fun h => absurd h (by simp), fun j t hj => by simp at hj⟩⟩
  · refine ⟨some ⟨g, 0, none⟩, cap, g, rfl, ⟨rfl, hc, fun _ => ⟨rfl, Blk.lt hh⟩, fun j t hj => ?_⟩⟩
    have hjl : j < xs.length := (List.getElem?_eq_some_iff.1 hj).1
    have key : ∀ i, i < 4 → w.cell? ⟨g, 0 + j * 4 + i, none⟩ = (itC t)[i]? := fun i hi => by
      rw [Nat.zero_add, cell_of_row w g _ cur _ (0, 0) hh, ← itsC_get xs j t hj i hi, ← ht, List.getElem?_take, if_pos (by omega), Array.getElem?_toList]
    exact ⟨key 0 (by omega), key 1 (by omega), key 2 (by omega), key 3 (by omega)⟩
theorem own_its2 {w : World} {base : Nat} {v : Value} {xs : List It} (h : w.ownsRow base 62 4 v xs.length (itsC xs)) : ∃ A cap b, v = .slice A xs.length cap ∧ Its w A xs.length cap b 0 xs ∧ (0 < xs.length → base ≤ b) := by
  obtain ⟨A, cap, b, rfl, hI⟩ := own_its h
  refine ⟨A, cap, b, rfl, hI, fun hl => ?_⟩
  have e := (hI.addr hl).1
  subst e
  exact (h.lt b rfl).1
theorem all_snoc (p : It → Bool) (xs : List It) (q : Nat) (t : It) (h : xs[q]? = some t) : (xs.take (q + 1)).all p = ((xs.take q).all p && p t) := by
  rw [List.take_add_one, h]; simp
theorem all_miss (p : It → Bool) (xs : List It) (q : Nat) (t : It) (h : xs[q]? = some t) (hp : p t = false) : xs.all p = false := by
  rw [List.all_eq_false]
  exact ⟨t, List.mem_of_getElem? h, by rw [hp]; decide⟩
theorem all_full (p : It → Bool) (xs : List It) (q : Nat) (h : xs.length ≤ q) (hq : (xs.take q).all p = true) : xs.all p = true := by
  rw [List.take_of_length_le h] at hq; exact hq
abbrev shIt : Sh := Sh.agg 4 [(0, 1, Sh.str), (1, 1, Sh.int .i64), (2, 1, Sh.bool), (3, 1, Sh.str)]
theorem it_open {w : World} {cs : List Value} (h : Sh.ok w shIt cs) : ∃ t : It, cs = itC t ∧ t.v < 9223372036854775808 ∧ t.u.size ≤ maxLen ∧ t.c.size ≤ maxLen := by
  simp only [Sh.ok, Sh.okAll] at h
  obtain ⟨hl, ⟨u, e0, hu⟩, ⟨v, e1, hv⟩, ⟨x, e2⟩, ⟨c, e3, hc⟩, _⟩ := h
  match cs, hl with
  | [c0, c1, c2, c3], _ =>
    simp at e0 e1 e2 e3
    subst e0 e1 e2 e3
    refine ⟨⟨u, v, x, c⟩, rfl, ?_, hu, hc⟩
    simp [Lit.wf, IntKind.min, IntKind.max, IntKind.signed, IntKind.bits] at hv
    show v < _
    omega
theorem its_open {w : World} {A : Option Addr} {len cap : Nat} (S : Sh.ok w (Sh.slice 4 shIt) [.slice A len cap]) : ∃ b off xs, Its w A len cap b off xs ∧ (∀ t ∈ xs, t.v < 9223372036854775808) := by
  obtain ⟨b, off, hle, hmax, ha, hc⟩ := slice_at S (by omega)
  have H : ∀ i, i < len → ∃ t : It, t.v < 9223372036854775808 ∧ ∀ j, j < 4 → w.cell? ⟨b, off + i * 4 + j, none⟩ = (itC t)[j]? := by
    intro i hi
    obtain ⟨cs, hl, hok, hcell⟩ := hc i hi
    obtain ⟨t, rfl, h1, _⟩ := it_open hok
    exact ⟨t, h1, hcell⟩
  refine ⟨b, off, List.ofFn (fun i : Fin len => Classical.choose (H i.1 i.2)), ⟨by simp, hle, ha, fun j t hj => ?_⟩, fun t ht => ?_⟩
  · have hjl : j < len := by have := (List.getElem?_eq_some_iff.1 hj).1; simpa using this
    rw [List.getElem?_eq_getElem (by simpa using hjl)] at hj
    simp only [List.getElem_ofFn, Option.some.injEq] at hj
    have h2 := (Classical.choose_spec (H j hjl)).2
    rw [hj] at h2
    exact ⟨by simpa [itC] using h2 0 (by omega), by simpa [itC] using h2 1 (by omega), by simpa [itC] using h2 2 (by omega), by simpa [itC] using h2 3 (by omega)⟩
  · obtain ⟨i, rfl⟩ := (List.mem_ofFn).1 ht
    exact (Classical.choose_spec (H i.1 i.2)).1
def litI (t : It) : Bool := decide (t.u.size ≤ 60) && decide (t.c.size ≤ 2000)
def lightB (card : ByteArray) (xs : List It) : Bool := decide (card.size ≤ 2000) && decide (xs.length ≤ 120) && xs.all litI
set_option maxHeartbeats 4000000 in
theorem alike_any {w : World} {A B : Option Addr} {len capA capB ba bb oa ob : Nat} {xs : List It} (h : Its w A len capA ba oa xs) (k : Its w B len capB bb ob xs) (hn : len ≤ 100000) : Calls Try.prog 21 #[.slice A len capA, .slice B len capB] w fun r w' => r = .returned (.bool true) ∧ Below w.heap.size w w' := by
  have HA := Lib.hid h
  have HB := Lib.hid k
  have hlen := h.hlen
  have hla := h.le
  have hlb := k.le
  have hnI : (len : Int) ≤ 100000 := by omega
  have H0 := Lib.hid (Below.refl w.heap.size w)
  clear h k
  go_enter Try.func21, Try.ntmps21
  go_wp2
  go_loopw [5] (fun i wr => ∃ q : Nat, q ≤ len ∧ i = .int .i64 (q : Int) ∧ Below w.heap.size w wr) (fun i _ => len - (intOf i).toNat)
  case atStart => exact ⟨0, Nat.zero_le _, rfl, H0.out⟩
  case round =>
    obtain ⟨q, hq, rfl, hB⟩ := hrel
    have HR := Lib.hid hB
    clear hB
    by_cases hql : q < len
    · obtain ⟨t, ht⟩ : ∃ t, xs[q]? = some t := ⟨xs[q]'(by rw [HA.out.hlen]; exact hql), List.getElem?_eq_getElem _⟩
      obtain ⟨rfl, hbl⟩ := HA.out.addr (by omega)
      obtain ⟨rfl, hbk⟩ := HB.out.addr (by omega)
      obtain ⟨c0, c1, c2, c3⟩ := (HA.out.below HR.out (fun _ => hbl)).cell q t ht
      obtain ⟨d0, d1, d2, d3⟩ := (HB.out.below HR.out (fun _ => hbk)).cell q t ht
      have hqI : (q : Int) < (len : Int) := by omega
      obtain ⟨tu, tv, tx, tc⟩ := t
      simp only at c0 c1 c2 c3 d0 d1 d2 d3
      clear ht
      go_wp2_with fail
      go_quiet (fail)
      have HQ := Lib.hid (below_drewN HR.out nq)
      go_wp2
      go_roundw
      case rel => exact ⟨q + 1, by omega, by go_num, HQ.out⟩
      case measure => simp [intOf]; omega
    · obtain rfl : q = len := by omega
      go_wp2
      go_ret
      exact ⟨rfl, HR.out⟩
end Go.Proofs.Ythcjbljkokflgaa
/- Draws and blocks of its own, nothing else. -/
namespace Go.Proofs.Ythcjbljkokflgaa
open Go.RowKit
open Go.Lib
open Go.Proofs
set_option linter.unusedVariables false
set_option linter.unusedSimpArgs false
set_option maxRecDepth 1000000
instance : Inhabited It := ⟨⟨ByteArray.empty, 0, false, ByteArray.empty⟩⟩
/-- Draws and blocks of its own, nothing else. -/
def GrI (w w' : World) : Prop := ∃ q os, w' = Sort.grow (w.drewN q) os
theorem GrI.refl (w : World) : GrI w w := ⟨0, #[], by simp [Sort.grow, World.drewN]⟩
theorem GrI.trans {a b c : World} (h : GrI a b) (k : GrI b c) : GrI a c := by
  obtain ⟨q, os, rfl⟩ := h
  obtain ⟨q2, os2, rfl⟩ := k
  exact ⟨q + q2, os ++ os2, by simp [Sort.grow, World.drewN, Array.append_assoc, Nat.add_assoc]⟩
theorem GrI.alloc {a b : World} (h : GrI a b) (o : Obj) : GrI a (b.alloc o) := h.trans ⟨0, #[o], by rw [Sort.alloc_eq_grow]; simp [Sort.grow, World.drewN]⟩
theorem GrI.below {a b : World} (h : GrI a b) : Below a.heap.size a b := by
  obtain ⟨q, os, rfl⟩ := h
  refine ⟨rfl, rfl, rfl, ?_, fun k hk => ?_⟩
  · simp [Sort.grow, World.drewN]
  · simp only [Sort.grow, World.drewN]
    rw [Array.getElem?_append_left hk]
theorem itsC_at (L : List It) (t : Nat) : (itsC L)[t]? = match L[t / 4]? with | some f => (itC f)[t % 4]? | none => none := by
  cases h : L[t / 4]? with
  | some f =>
    have := itsC_get L (t / 4) f h (t % 4) (Nat.mod_lt _ (by decide))
    show (itsC L)[t]? = (itC f)[t % 4]?
    rw [← this]
    congr 1
    omega
  | none =>
    have := List.getElem?_eq_none_iff.1 h
    exact List.getElem?_eq_none_iff.2 (by rw [itsC_len]; omega)
end Go.Proofs.Ythcjbljkokflgaa
namespace Go.Proofs.Ythcjbljkokflgaa
open Go.RowKit
open Go.Lib
open Go.Shelf
set_option linter.unusedVariables false
set_option linter.unusedSimpArgs false
set_option maxRecDepth 100000
attribute [local go_sem] Oper.semAt_some
theorem infoIt : (Try.prog.info? 62).map (fun i => (i.zero, i.size, i.bytes)) = some (some (.agg #[.string .empty, .int .i64 0, .bool false, .string .empty]), 4, 48) := by kernel_rfl
def itK (q : ByteArray × (Int × ByteArray)) : It := ⟨q.1, q.2.1, false, q.2.2⟩
def itsK (L : LK) : List It := L.map itK
theorem itsK_len (L : LK) : (itsK L).length = L.length := by unfold itsK; rw [List.length_map]
theorem cell_four_new (w : World) (a b c d : Value) (t : TypeId) : ∀ j u, [a, b, c, d][j]? = some u → (w.alloc (.cells #[a, b, c, d] t)).cell? ((⟨w.heap.size, 0, none⟩ : Addr).add j) = some u := by
  intro j u hj
  have e := (Blk.new w t #[a, b, c, d]).cell j
  rw [show (⟨w.heap.size, 0, none⟩ : Addr).add j = ⟨w.heap.size, j, none⟩ by unfold Addr.add; split <;> simp_all, e, ← hj]
  simp
theorem keepsFrom_below {B : Nat} {W W' : World} (h : Below W.heap.size W W') : KeepsFrom B W W' := ⟨h.size, fun k o _ hk _ => (h.block k (Array.getElem?_eq_some_iff.1 hk).1).trans hk⟩
theorem boxed_below {W W' : World} {b : Nat} {t : TypeId} {v : Value} (hv : Boxed W b t v) (h : Below W.heap.size W W') : Boxed W' b t v := (h.block b hv.lt).trans hv
theorem own_below {w1 w2 : World} {base : Nat} {e : TypeId} {k n : Nat} {v : Value} {xs : List Value} (h : w1.ownsRow base e k v n xs) (ht : Below w1.heap.size w1 w2) : w2.ownsRow base e k v n xs := by
  obtain ⟨h0, h3 | ⟨b, cap, cur, e1, e2, e3, e4⟩⟩ := h
  · exact ⟨h0, .inl h3⟩
  · exact ⟨h0, .inr ⟨b, cap, cur, e1, e2, (ht.block b (Blk.lt e3)).trans e3, e4⟩⟩
theorem GrI.setNew {a b : World} (h : GrI a b) {g : Nat} (hg : a.heap.size ≤ g) (i : Nat) (u : Value) : GrI a (b.setCell ⟨g, i, none⟩ u) := by
  obtain ⟨q, os, rfl⟩ := h
  exact ⟨q, _, by rw [Sort.setCell_eq, Sort.mapBlock_grow_new _ _ _ _ (by simpa [World.drewN] using hg)]⟩
theorem results_cellI {fn : Func} {p : Tmp} {ty : TypeId} (h : fn.results = #[.cell p ty]) (tmps : Array Value) (P : Program) (w : World) (g : Nat) (t : TypeId) (cs : Array Value) (fr : Nat × Nat) (fs : Array Field)
    (hp : tmps.getD p undef = .pointer (some ⟨g, 0, none⟩)) (hg : w.heap[g]? = some (.cells cs t fr))
    (hu : P.underlying ty = some (.struct fs)) (hi : (P.info? ty).map (·.size) = some cs.size) :
    (results fn tmps).run P w = .ok (.agg cs) w := by
  have hp' : tmps[p]?.getD undef = .pointer (some ⟨g, 0, none⟩) := by simpa using hp
  simp [results, h, hp', asAddr, run_loadVar_row w g t ty cs fr _ hg hu rfl hi]
theorem item_out {cs : Array Value} (hc : cs.size = 4) {R : Ending → World → Prop} {a : Act} {w : World} {g : Nat} (h2 : a.tmps.getD 4 undef = .pointer (some ⟨g, 0, none⟩)) (hd : a.defers = []) (hg : Blk w g 62 cs)
    (hR : R (.returned (.agg cs)) w) : bodyPost Try.prog Try.f48 R .ret a w :=
  bodyPost_ret (results_cellI (fn := Try.f48) rfl a.tmps Try.prog w g 62 cs (0, 0) _ h2 hg Try.underlying62 (by rw [hc]; rfl)) hd hR
set_option maxHeartbeats 2000000 in
theorem item_any (u : ByteArray) (v : Int) (x : ByteArray) (w : World) : Calls Try.prog 48 #[.string u, .agg #[.int .i64 v, .string x]] w fun e w' => e = .returned (.agg #[.string u, .int .i64 v, .bool false, .string x]) ∧ GrI w w' := by
  obtain ⟨n, hn⟩ : ∃ n, w.heap.size = n := ⟨_, rfl⟩
  obtain ⟨wA, hwA⟩ : ∃ wA, (w.alloc (.cells #[.int .i64 v, .string x] 68)).alloc (.cells #[.string ⟨#[]⟩, .int .i64 0, .bool false, .string ⟨#[]⟩] 62) = wA := ⟨_, rfl⟩
  have HB1 := Lib.hid (show Blk wA n 68 #[.int .i64 v, .string x] from hwA ▸ hn ▸ (Blk.new w _ _).alloc _)
  have HB2 := Lib.hid (show Blk wA (n + 1) 62 #[.string ⟨#[]⟩, .int .i64 0, .bool false, .string ⟨#[]⟩] from by
    have := Blk.new (w.alloc (.cells #[.int .i64 v, .string x] 68)) 62 #[.string ⟨#[]⟩, .int .i64 0, .bool false, .string ⟨#[]⟩]
    rw [World.size_alloc, hwA, hn] at this
    exact this)
  have HW := Lib.hid (show GrI w wA from hwA ▸ ((GrI.refl w).alloc _).alloc _)
  have HN := Lib.hid hn
  have a0 : wA.cell? ⟨n, 0, none⟩ = some (.int .i64 v) := HB1.out.cell 0
  have a1 : wA.cell? ⟨n, 1, none⟩ = some (.string x) := HB1.out.cell 1
  have z0 := HB2.out.cell 0
  have z1 := HB2.out.cell 1
  have z2 := HB2.out.cell 2
  have z3 := HB2.out.cell 3
  have f0 := HB2.out.frozen 0
  have f1 := HB2.out.frozen 1
  have f2 := HB2.out.frozen 2
  have f3 := HB2.out.frozen 3
  go_enter Try.func48, Try.ntmps48
  go_wp2
  refine item_out (cs := #[.string u, .int .i64 v, .bool false, .string x]) (g := n + 1) rfl rfl rfl ((((HB2.out.set_ 0 (.string u)).set_ 1 (.int .i64 v)).set_ 2 (.bool false)).set_ 3 (.string x)) ⟨rfl, ?_⟩
  have hN := HN.out
  exact (((HW.out.setNew (by omega) 0 _).setNew (by omega) 1 _).setNew (by omega) 2 _).setNew (by omega) 3 _
set_option maxHeartbeats 8000000 in
theorem live_any {w : World} {B0 g : Nat} {c : Cs} (hR : Cl w B0 g c) (hn : c.L.length ≤ 1000000) (hks : ∀ q ∈ c.L, q.1.size ≤ 1000000) : Calls Try.prog 22 #[.pointer (some ⟨g, 0, none⟩)] w fun e w' => ∃ U, e = .returned U ∧ w'.ownsRow w.heap.size 62 4 U c.L.length (itsC (itsK c.L)) ∧ Below w.heap.size w w' := by
  obtain ⟨i0, hi, hz0, hz1, hz2⟩ := info_parts infoIt
  have HLN := Lib.hid (cl_len hR)
  obtain ⟨m, R, hbx, hom, -, -, -⟩ := hR
  have c0 := hbx.cell 0
  simp only [List.getElem?_toArray, List.getElem?_cons_zero] at c0
  have HRB := Lib.hid hbx
  obtain ⟨L, hL⟩ : ∃ L, c.L = L := ⟨_, rfl⟩
  rw [hL] at hom hn hks HLN ⊢
  obtain ⟨t, hM, rfl, hS⟩ := hom
  obtain ⟨w1, hmk, hrow1, hg1⟩ := run_make_own (P := Try.prog) w w.heap.size 40 62 i0 _ 4 Try.underlying40 hi hz0 hz1 .i64 .i64 t.ino.length (by rw [hz2]; omega) (by unfold maxLen; omega) (Nat.le_refl _)
  have hB1 : Below w.heap.size w w1 := ⟨hg1.os, hg1.tape, hg1.output, hg1.size, fun j hj => hg1.block j hj (by simp)⟩
  have HB1 := Lib.hid hB1
  have HM := Lib.hid hM
  have d0 := ((HRB.out.below hB1 HRB.out.lt).alloc (.cells #[.slice (some ⟨w.heap.size, 0, none⟩) 0 t.ino.length] 40)).cell 0
  simp only [List.getElem?_toArray, List.getElem?_cons_zero] at d0
  have hd : Fence.wide.depth = none := rfl
  have hall : ∀ f, Fence.wide.fn f := fun _ => trivial
  have hro : Fence.wide.round = none := rfl
  have h1 : 1 ≤ 6 := by decide
  have hnI : (t.ino.length : Int) ≤ 1000000 := by omega
  clear hM hB1 hbx hL
  refine (callsIn_wide (n := 6)).1 ?_
  refine callsIn_of_wp_marks Try.func22 rfl (hall _) ?_ hro
  simp only [Try.ntmps22, List.size_toArray, List.length_cons, List.length_nil, Nat.reduceAdd, Nat.reduceSub, Array.replicate_succ, Array.replicate_zero, List.push_toArray, List.append_toArray, List.nil_append, List.cons_append]
  gi_wp2_with (first
    | (gi_at_call 36; refine (callsIn_wide.2 HLN.out).mono ?_; rintro _ wz ⟨rfl, hw0⟩; replace hw0 := hw0.symm; subst hw0)
    | (gi_at_call 47; refine (callsIn_wide.2 (OC.all_fn m _)).mono ?_; rintro _ wz ⟨rfl, hw0⟩; replace hw0 := hw0.symm; subst hw0)
    | fail)
  obtain ⟨W0, hW0⟩ : ∃ W0, ((w1.alloc (.cells #[.slice (some ⟨w.heap.size, 0, none⟩) 0 t.ino.length] 40)).alloc (.cells #[.pointer (some ⟨m, 0, none⟩)] 65)).alloc (.cells #[.string .empty] 9) = W0 := ⟨_, rfl⟩
  have hs1 : w.heap.size ≤ w1.heap.size := HB1.out.size
  have bO : Boxed W0 w1.heap.size 40 (.slice (some ⟨w.heap.size, 0, none⟩) 0 t.ino.length) := by
    rw [← hW0]; exact ((Boxed.new w1 40 _).alloc _).alloc _
  have bM : Boxed W0 (w1.heap.size + 1) 65 (.pointer (some ⟨m, 0, none⟩)) := by
    have := (Boxed.new (w1.alloc (.cells #[.slice (some ⟨w.heap.size, 0, none⟩) 0 t.ino.length] 40)) 65 (.pointer (some ⟨m, 0, none⟩))).alloc (.cells #[.string .empty] 9)
    rw [World.size_alloc] at this
    rw [← hW0]; exact this
  have bX : Boxed W0 (w1.heap.size + 1 + 1) 9 (.string .empty) := by
    have := Boxed.new ((w1.alloc (.cells #[.slice (some ⟨w.heap.size, 0, none⟩) 0 t.ino.length] 40)).alloc (.cells #[.pointer (some ⟨m, 0, none⟩)] 65)) 9 (.string .empty)
    rw [World.size_alloc, World.size_alloc] at this
    rw [← hW0]; exact this
  have hB0 : Below w1.heap.size w1 W0 := by
    rw [← hW0]; exact (((Below.refl _ w1).alloc (Nat.le_refl _) _).alloc (by simp) _).alloc (by simp; omega) _
  have hBw : Below w.heap.size w W0 := HB1.out.trans (hB0.mono hs1)
  have hrow0 : W0.ownsRow w.heap.size 62 4 (.slice (some ⟨w.heap.size, 0, none⟩) 0 t.ino.length) 0 [] := by
    rw [← hW0]; exact ((hrow1.alloc _).alloc _).alloc _
  have hM0 : OC.Mt W0 m t := HM.out.below hBw
  have hs0 : W0.heap.size = w1.heap.size + 1 + 1 + 1 := by rw [← hW0]; simp
  have hU : Tr.und .empty t = t.ino := Tr.und_empty t
  rw [hW0]
  have hst := OC.und_stops 5 (w1.heap.size + 1) (w1.heap.size + 1 + 1) m t .empty (by decide) W0 bM.lt bX.lt bM.cell bX.cell hM0 hks
  rw [hU] at hst
  clear d0 c0
  refine wpIn_rangeFunc_ownH (F := Fence.wide) (n := 6) hro h1 (gf := 75) (lb := #[.pointer (some ⟨w1.heap.size + 1, 0, none⟩), .pointer (some ⟨w1.heap.size + 1 + 1, 0, none⟩)]) rfl (hall _) (enters_of Try.func75 (by kernel_rfl) rfl)
    hst (fun h k => h.trans k) (fun W l o o' hl h1 h2 h3 => OC.KeepN.put (w := W0) W l o o' hl h1 h2 h3) (Below.refl _ _) (fun _ => rfl)
    (fun pre W => (∃ v, Boxed W w1.heap.size 40 v ∧ W.ownsRow w.heap.size 62 4 v pre.length (itsC (itsK pre)) ∧ True) ∧ Below w.heap.size w W)
    (fun _ _ _ => False)
    (OwnFrom.and (Own.from (holdsRow_own w.heap.size w1.heap.size 40 62 4 (fun pre => pre.length) (fun pre => itsC (itsK pre)) (fun _ _ => True)) _) (ownFrom_below (Nat.le_refl _) hBw.size))
    (fun _ _ _ _ _ hs _ _ => hs)
    ⟨⟨_, bO, hrow0, trivial⟩, hBw⟩
    (fun x a W => ∃ B, Blk W B 68 #[.int .i64 x.2.1, .string x.2.2] ∧ a = { tmps := #[.pointer (some ⟨g, 0, none⟩), undef, .slice none 0 0, .pointer (some ⟨w1.heap.size, 0, none⟩), .string x.1, .pointer (some ⟨B, 0, none⟩), .pointer (some ⟨g, 0, none⟩), .int .i64 (t.ino.length : Int), .slice (some ⟨w.heap.size, 0, none⟩) 0 t.ino.length, .pointer (some ⟨g, 0, none⟩), .pointer (some ⟨g, 0, none⟩), .pointer (some ⟨g, 0, none⟩), .pointer (some ⟨m, 0, none⟩), .func (.func 75) #[] #[.pointer (some ⟨w1.heap.size + 1, 0, none⟩), .pointer (some ⟨w1.heap.size + 1 + 1, 0, none⟩)], .string x.1, .agg #[.int .i64 x.2.1, .string x.2.2], undef, undef, undef, undef, undef, undef, undef], defers := [] })
    (fun x a' => fun _ X Y row hs hg hr => by
      obtain ⟨B, h1, h2⟩ := hs
      exact ⟨B, h1.grown hg (fun e => by
        obtain ⟨_, o, ho, hc⟩ := hr B e.symm
        unfold Blk at h1
        rw [h1] at ho
        cases ho
        cases hc), h2⟩) ?assign ?body ?done ?stop
  case assign =>
    rintro l pre x W K ⟨⟨v, hv, hrow, _⟩, hB⟩ hK
    have HV := Lib.hid hv
    have HROW := Lib.hid hrow
    have HBB := Lib.hid hB
    clear hv hrow hB
    obtain ⟨n, hn2⟩ : ∃ n, W.heap.size = n := ⟨_, rfl⟩
    obtain ⟨W1, hW1⟩ : ∃ W1, W.alloc (.cells #[.int .i64 0, .string { data := #[] }] 68) = W1 := ⟨_, rfl⟩
    have HC1 := Lib.hid (show Below W.heap.size W W1 from hW1 ▸ (Below.refl _ W).alloc (Nat.le_refl _) _)
    have HY1 := Lib.hid (show Blk W1 n 68 #[.int .i64 0, .string .empty] from hn2 ▸ hW1 ▸ Blk.new W 68 _)
    have y0 := HY1.out.cell 0
    have y1 := HY1.out.cell 1
    have f0 := HY1.out.frozen 0
    have f1 := HY1.out.frozen 1
    have HY2 := Lib.hid ((HY1.out.set_ 0 (.int .i64 x.2.1)).set_ 1 (.string x.2.2))
    have HC2 := Lib.hid (((HC1.out.mono (Nat.le_of_eq hn2.symm)).setCell (p := ⟨n, 0, none⟩) (Nat.le_refl _) (.int .i64 x.2.1)).setCell (p := ⟨n, 1, none⟩) (Nat.le_refl _) (.string x.2.2))
    have HK := Lib.hid hK
    clear hK
    simp only [OC.enI]
    gi_wp2
    have hC' := HC2.out.mono (Nat.le_of_eq hn2)
    exact HK.out _ _ (keepsFrom_below hC') (OC.KeepN.of hC') ⟨⟨v, boxed_below HV.out hC', own_below HROW.out hC', trivial⟩, HBB.out.trans (hC'.mono HBB.out.size)⟩ ⟨n, HY2.out, rfl⟩
  case body =>
    rintro l pre x a' W _ _ ⟨⟨v, hv, hrow, _⟩, hB⟩ ⟨B, hbx, rfl⟩ hlt
    have HV := Lib.hid hv
    have HROW := Lib.hid hrow
    have HBB := Lib.hid hB
    have HBX := Lib.hid hbx
    have HIT := Lib.hid (fun W => item_any x.1 x.2.1 x.2.2 W)
    have HH := Lib.hid (fun W' (hb : Below W.heap.size W W') => (⟨(boxed_below HV.out hb).cell, (HBX.out.below hb HBX.out.lt).cell 0, (HBX.out.below hb HBX.out.lt).cell 1⟩ : W'.cell? ⟨w1.heap.size, 0, none⟩ = some v ∧ W'.cell? ⟨B, 0, none⟩ = some (.int .i64 x.2.1) ∧ W'.cell? ⟨B, 1, none⟩ = some (.string x.2.2)))
    have HF0 := Lib.hid ((Below.refl W.heap.size W).drew)
    have hplt : pre.length < 1000000 := by omega
    clear hv hrow hB hbx
    gi_wp2
    refine wpIn_region_E [([5], fun w' => w'.cell? ⟨w1.heap.size, 0, none⟩ = some v), ([3], fun w' => w'.cell? ⟨B, 0, none⟩ = some (.int .i64 x.2.1) ∧ w'.cell? ⟨B, 1, none⟩ = some (.string x.2.2))] (by kernel_rfl) (by kernel_rfl) ⟨fun _ => (HH.out _ HF0.out).1, fun _ => (HH.out _ HF0.out).2, trivial⟩ (fun hHeld => ?_)
    refine wpAnyE_load (i := 0) _ _ (v := ?_) rfl (by kernel_rfl) List.mem_cons_self (by kernel_rfl) (by kernel_rfl) (by kernel_rfl) (by kernel_rfl) (fun _ _ _ h => h) (Or.inl ⟨by rfl, ?_⟩) hHeld (fun hHeld => ?_)
    rotate_left
    · (intro w hSw; (try dsimp only at hSw); (try simp only [List.getElem_toArray, List.getElem_cons_succ, List.getElem_cons_zero]); go_simp; try with_reducible rfl)
    try simp only [List.getElem_toArray, List.getElem_cons_succ, List.getElem_cons_zero, Act.put, List.setIfInBounds_toArray, List.set_cons_zero, List.set_cons_succ]
    refine wpAnyE_take (i := 1) (v := ?_) rfl (by kernel_rfl) (by kernel_rfl) (by kernel_rfl) (by kernel_rfl) (fun _ _ _ h => h) (Or.inl ⟨by rfl, ?_⟩) hHeld (fun hHeld => ?_)
    rotate_left
    · (intro w hSw; (try dsimp only at hSw); (try simp only [List.getElem_toArray, List.getElem_cons_succ, List.getElem_cons_zero]); go_simp; try with_reducible rfl)
    try simp only [List.getElem_toArray, List.getElem_cons_succ, List.getElem_cons_zero, Act.put, List.setIfInBounds_toArray, List.set_cons_zero, List.set_cons_succ]
    refine wpAnyE_load (i := 2) _ _ (v := ?_) rfl (by kernel_rfl) (List.mem_cons_of_mem _ List.mem_cons_self) (by kernel_rfl) (by kernel_rfl) (by kernel_rfl) (by kernel_rfl) (fun _ _ _ h => h) (Or.inl ⟨by rfl, ?_⟩) hHeld (fun hHeld => ?_)
    rotate_left
    · (intro w hSw; (try dsimp only at hSw); (try simp only [List.getElem_toArray, List.getElem_cons_succ, List.getElem_cons_zero]); go_simp; try with_reducible rfl)
    try simp only [List.getElem_toArray, List.getElem_cons_succ, List.getElem_cons_zero, Act.put, List.setIfInBounds_toArray, List.set_cons_zero, List.set_cons_succ]
    refine wpAnyE_ready (rs := [3]) (by kernel_rfl) (by simp) (AllE.cons rfl (fun K hK => ?_) AllE.nil)
    clear hHeld
    go_simp
    refine (HIT.out _).mono ?_
    rintro _ W1 ⟨rfl, hg⟩
    have HF1 := Lib.hid (HF0.out.trans (hg.below.mono (Nat.le_refl _)))
    clear hg
    refine hK.out _ _ ⟨fun _ => (HH.out _ HF1.out).1, (fun e => absurd e (Bool.eq_false_iff.1 (by kernel_rfl))), trivial⟩ (fun hHeld => ?_)
    clear hK K
    try simp only [List.getElem_toArray, List.getElem_cons_succ, List.getElem_cons_zero, Act.put, List.setIfInBounds_toArray, List.set_cons_zero, List.set_cons_succ]
    have HF2 := Lib.hid (HF1.out.alloc HF1.out.size (.cells #[.string x.1, .int .i64 x.2.1, .bool false, .string x.2.2] 62))
    have HN2 := Lib.hid (Blk.new W1 62 #[.string x.1, .int .i64 x.2.1, .bool false, .string x.2.2])
    have HO2 := Lib.hid (own_below HROW.out HF2.out)
    have HSW := Lib.hid (show w.heap.size ≤ W.heap.size from HBB.out.size)
    have HSW1 := Lib.hid (show w.heap.size ≤ W1.heap.size from Nat.le_trans HBB.out.size HF1.out.size)
    have HSW2 := Lib.hid (show w.heap.size ≤ (W1.alloc (.cells #[.string x.1, .int .i64 x.2.1, .bool false, .string x.2.2] 62)).heap.size from Nat.le_trans HBB.out.size HF2.out.size)
    refine wpAnyE_ready (rs := [4]) (by kernel_rfl) (by simp) (AllE.cons rfl (fun K hK => ?_) AllE.nil)
    clear hHeld
    go_simp
    refine hK.out _ _ ⟨fun _ => (HH.out _ HF2.out).1, (fun e => absurd e (Bool.eq_false_iff.1 (by kernel_rfl))), trivial⟩ (fun hHeld => ?_)
    clear hK K
    try simp only [List.getElem_toArray, List.getElem_cons_succ, List.getElem_cons_zero, Act.put, List.setIfInBounds_toArray, List.set_cons_zero, List.set_cons_succ]
    refine wpAnyE_ready (rs := [5]) (by kernel_rfl) (by simp) (AllE.cons rfl (fun K hK => ?_) AllE.nil)
    clear hHeld
    refine step_append_lies _ rfl (.tmp 16) (.tmp 20) 40 rfl w.heap.size 62 i0 _ 4 48 Try.underlying40 hi hz0 hz1 hz2 rfl (by decide) _ pre.length _ rfl HO2.out ⟨W1.heap.size, 0, none⟩ 1 1 [.string x.1, .int .i64 x.2.1, .bool false, .string x.2.2] rfl rfl (World.news_of_block HN2.out) (by simp [Value.oneCell']) (by decide) (by unfold maxLen; omega) (by omega) HSW2.out _ rfl ?_
    intro g3 cap3 w3 hown hgr _ _
    obtain ⟨hv1, hv2, hr2, hk2, hb2⟩ := (boxed_below HV.out HF1.out).appended (by decide) (own_below HROW.out HF1.out) HSW1.out hs1 hown hgr
    have e1 := hv1.cell
    have f1 := hv1.frozen
    have HKN := Lib.hid (((OC.KeepN.of HF2.out).trans (OC.KeepN.grown HO2.out (by decide) hgr)).trans (OC.KeepN.set (g := w1.heap.size) (t := 40) hv1 (by decide) 0 (.slice (some ⟨g3, 0, none⟩) (pre.length + 1) cap3)))
    have HV2 := Lib.hid hv2
    have HR2 := Lib.hid hr2
    have HK2 := Lib.hid hk2
    have HB2 := Lib.hid hb2
    clear hown hgr hv1 hv2 hr2 hk2 hb2
    refine hK.out _ _ ⟨(fun e => absurd e (Bool.eq_false_iff.1 (by kernel_rfl))), (fun e => absurd e (Bool.eq_false_iff.1 (by kernel_rfl))), trivial⟩ (fun hHeld => ?_)
    clear hK K
    try simp only [List.getElem_toArray, List.getElem_cons_succ, List.getElem_cons_zero, Act.put, List.setIfInBounds_toArray, List.set_cons_zero, List.set_cons_succ]
    refine wpAnyE_ready (rs := [6]) (by kernel_rfl) (by simp) (AllE.cons rfl (fun K hK => ?_) AllE.nil)
    clear hHeld
    go_simp
    refine hK.out _ _ ⟨(fun e => absurd e (Bool.eq_false_iff.1 (by kernel_rfl))), (fun e => absurd e (Bool.eq_false_iff.1 (by kernel_rfl))), trivial⟩ (fun hHeld => ?_)
    clear hK K
    try simp only [List.getElem_toArray, List.getElem_cons_succ, List.getElem_cons_zero, Act.put, List.setIfInBounds_toArray, List.set_cons_zero, List.set_cons_succ]
    refine wpAnyE_done (by kernel_rfl) (only_normal ?_) _
    have e : itsC (itsK (pre ++ [x])) = itsC (itsK pre) ++ [.string x.1, .int .i64 x.2.1, .bool false, .string x.2.2] := by unfold itsK; rw [List.map_append, List.map_singleton, itsC_snoc]; rfl
    exact ⟨(keepsFrom_below HF1.out).trans (HK2.out.from _), HKN.out, ⟨_, HV2.out, by rw [e, List.length_append]; exact HR2.out, trivial⟩, (HBB.out.trans (HF1.out.mono HSW.out)).trans HB2.out⟩
  case done =>
    rintro D ys W hD rfl ⟨⟨v, hv, hrow, _⟩, hB⟩ hK
    have hc := hv.cell
    gi_wp2
    refine ⟨by simp, .inl ⟨_, _, rfl, run_takeDeferred hK, ?_⟩⟩
    have hrow' := ownsRow_putObj hrow (.deferred none) hK rfl
    exact ⟨_, results_tmp rfl _ _ _, v, rfl, hrow', hB.trans (belowK_b (w := w) (Nat.le_refl _) W D _ _ (by omega) hK rfl rfl)⟩
  case stop =>
    rintro D c pre W _ _ h _
    exact h.elim
end Go.Proofs.Ythcjbljkokflgaa
