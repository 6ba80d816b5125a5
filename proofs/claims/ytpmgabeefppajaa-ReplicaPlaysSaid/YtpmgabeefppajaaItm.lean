/- Items of an answer: where they lie, are they light, are they alike. -/
import Derived.Test.YtpmgabeefppajaaSlice
import Derived.Test.YtpmgabeefppajaaBy
import Derived.OwnWalk
import Derived.Laws.AppendOwn
import Derived.BigQuiet
import Derived.RegionTactic
import Derived.Deep.QuietTactic
import Derived.Test.YtpmgabeefppajaaProg
import Derived.Deep.Upon
import Derived.Lib.Hide
import Derived.KernelRfl
namespace Go.Proofs.Ytpmgabeefppajaa
open Go.RowKit
open Go.Lib
set_option linter.unusedVariables false
set_option linter.unusedSimpArgs false
set_option maxRecDepth 20000
structure It where
  u : ByteArray
  v : Int
  x : Bool
  c : ByteArray
/-- Items that lie in memory, four cells each. -/
structure Its (w : World) (A : Option Addr) (len cap b off : Nat) (xs : List It) : Prop where
  hlen : xs.length = len
  le : len ≤ cap
  addr : 0 < len → A = some ⟨b, off, none⟩ ∧ b < w.heap.size
  cell : ∀ (j : Nat) (t : It), xs[j]? = some t → w.cell? ⟨b, off + j * 4, none⟩ = some (.string t.u) ∧ w.cell? ⟨b, off + j * 4 + 1, none⟩ = some (.int .i64 t.v) ∧ w.cell? ⟨b, off + j * 4 + 2, none⟩ = some (.bool t.x) ∧ w.cell? ⟨b, off + j * 4 + 3, none⟩ = some (.string t.c)
theorem Its.below {w w' : World} {A : Option Addr} {len cap b off B : Nat} {xs : List It} (h : Its w A len cap b off xs) (hb : Below B w w') (hB : 0 < len → b < B) : Its w' A len cap b off xs :=
  ⟨h.hlen, h.le, fun hl => ⟨(h.addr hl).1, Nat.lt_of_lt_of_le (h.addr hl).2 hb.size⟩, fun j t hj => by
    have hlt : j < xs.length := (List.getElem?_eq_some_iff.1 hj).1
    have hbb := hB (by have := h.hlen; omega)
    obtain ⟨h1, h2, h3, h4⟩ := h.cell j t hj
    exact ⟨by rw [hb.cell (p := ⟨b, _, none⟩) hbb]; exact h1, by rw [hb.cell (p := ⟨b, _, none⟩) hbb]; exact h2, by rw [hb.cell (p := ⟨b, _, none⟩) hbb]; exact h3, by rw [hb.cell (p := ⟨b, _, none⟩) hbb]; exact h4⟩⟩
def itC (t : It) : List Value := [.string t.u, .int .i64 t.v, .bool t.x, .string t.c]
def itsC (xs : List It) : List Value := (xs.map itC).flatten
theorem itsC_len (xs : List It) : (itsC xs).length = xs.length * 4 := by
  induction xs with
  | nil => rfl
  | cons t xs ih => unfold itsC at *; simp only [List.map_cons, List.flatten_cons, List.length_append, List.length_cons, ih]; simp [itC]; omega
theorem itsC_snoc (xs : List It) (t : It) : itsC (xs ++ [t]) = itsC xs ++ itC t := by unfold itsC; simp
theorem itsC_get : ∀ (xs : List It) (j : Nat) (t : It), xs[j]? = some t → ∀ i, i < 4 → (itsC xs)[j * 4 + i]? = (itC t)[i]?
  | [], j, t, h => by simp at h
  | y :: xs, 0, t, h => fun i hi => by
    simp at h; subst h
    have hl : (itC y).length = 4 := rfl
    show ((itC y) ++ itsC xs)[0 * 4 + i]? = _
    rw [Nat.zero_mul, Nat.zero_add, List.getElem?_append_left (by omega)]
  | y :: xs, j + 1, t, h => fun i hi => by
    have hl : (itC y).length = 4 := rfl
    show ((itC y) ++ itsC xs)[(j + 1) * 4 + i]? = _
    rw [List.getElem?_append_right (by omega), hl, show (j + 1) * 4 + i - 4 = j * 4 + i by omega]
    exact itsC_get xs j t (by simpa using h) i hi
theorem own_its {w : World} {base : Nat} {v : Value} {xs : List It} (h : w.ownsRow base 41 4 v xs.length (itsC xs)) : ∃ A cap b, v = .slice A xs.length cap ∧ Its w A xs.length cap b 0 xs := by
  obtain ⟨h1, ⟨rfl, h2⟩ | ⟨g, cap, cur, rfl, hg, hh, hc, hm, hcs, ht⟩⟩ := h
  · have : xs = [] := List.length_eq_zero_iff.1 h2
    subst this
    exact ⟨none, 0, 0, rfl, ⟨rfl, Nat.le_refl _, fun h => absurd h (by simp), fun j t hj => by simp at hj⟩⟩
  · refine ⟨some ⟨g, 0, none⟩, cap, g, rfl, ⟨rfl, hc, fun _ => ⟨rfl, Blk.lt hh⟩, fun j t hj => ?_⟩⟩
    have hjl : j < xs.length := (List.getElem?_eq_some_iff.1 hj).1
    have key : ∀ i, i < 4 → w.cell? ⟨g, 0 + j * 4 + i, none⟩ = (itC t)[i]? := fun i hi => by
      rw [Nat.zero_add, cell_of_row w g _ cur _ (0, 0) hh, ← itsC_get xs j t hj i hi, ← ht, List.getElem?_take, if_pos (by omega), Array.getElem?_toList]
    exact ⟨key 0 (by omega), key 1 (by omega), key 2 (by omega), key 3 (by omega)⟩
theorem own_its2 {w : World} {base : Nat} {v : Value} {xs : List It} (h : w.ownsRow base 41 4 v xs.length (itsC xs)) : ∃ A cap b, v = .slice A xs.length cap ∧ Its w A xs.length cap b 0 xs ∧ (0 < xs.length → base ≤ b) := by
  obtain ⟨A, cap, b, rfl, hI⟩ := own_its h
  refine ⟨A, cap, b, rfl, hI, fun hl => ?_⟩
  have e := (hI.addr hl).1
  subst e
  exact (h.lt b rfl).1
theorem all_snoc (p : It → Bool) (xs : List It) (q : Nat) (t : It) (h : xs[q]? = some t) : (xs.take (q + 1)).all p = ((xs.take q).all p && p t) := by
  rw [List.take_add_one, h]; simp
theorem all_miss (p : It → Bool) (xs : List It) (q : Nat) (t : It) (h : xs[q]? = some t) (hp : p t = false) : xs.all p = false := by
  rw [List.all_eq_false]
  exact ⟨t, List.mem_of_getElem? h, by rw [hp]; decide⟩
theorem all_full (p : It → Bool) (xs : List It) (q : Nat) (h : xs.length ≤ q) (hq : (xs.take q).all p = true) : xs.all p = true := by
  rw [List.take_of_length_le h] at hq; exact hq
abbrev shIt : Sh := Sh.agg 4 [(0, 1, Sh.str), (1, 1, Sh.int .i64), (2, 1, Sh.bool), (3, 1, Sh.str)]
theorem it_open {w : World} {cs : List Value} (h : Sh.ok w shIt cs) : ∃ t : It, cs = itC t ∧ t.v < 9223372036854775808 ∧ t.u.size ≤ maxLen ∧ t.c.size ≤ maxLen := by
  simp only [Sh.ok, Sh.okAll] at h
  obtain ⟨hl, ⟨u, e0, hu⟩, ⟨v, e1, hv⟩, ⟨x, e2⟩, ⟨c, e3, hc⟩, _⟩ := h
  match cs, hl with
  | [c0, c1, c2, c3], _ =>
    simp at e0 e1 e2 e3
    subst e0 e1 e2 e3
    refine ⟨⟨u, v, x, c⟩, rfl, ?_, hu, hc⟩
    simp [Lit.wf, IntKind.min, IntKind.max, IntKind.signed, IntKind.bits] at hv
    show v < _
    omega
theorem its_open {w : World} {A : Option Addr} {len cap : Nat} (S : Sh.ok w (Sh.slice 4 shIt) [.slice A len cap]) : ∃ b off xs, Its w A len cap b off xs ∧ (∀ t ∈ xs, t.v < 9223372036854775808) := by
  obtain ⟨b, off, hle, hmax, ha, hc⟩ := slice_at S (by omega)
  have H : ∀ i, i < len → ∃ t : It, t.v < 9223372036854775808 ∧ ∀ j, j < 4 → w.cell? ⟨b, off + i * 4 + j, none⟩ = (itC t)[j]? := by
    intro i hi
    obtain ⟨cs, hl, hok, hcell⟩ := hc i hi
    obtain ⟨t, rfl, h1, _⟩ := it_open hok
    exact ⟨t, h1, hcell⟩
  refine ⟨b, off, List.ofFn (fun i : Fin len => Classical.choose (H i.1 i.2)), ⟨by simp, hle, ha, fun j t hj => ?_⟩, fun t ht => ?_⟩
  · have hjl : j < len := by have := (List.getElem?_eq_some_iff.1 hj).1; simpa using this
    rw [List.getElem?_eq_getElem (by simpa using hjl)] at hj
    simp only [List.getElem_ofFn, Option.some.injEq] at hj
    have h2 := (Classical.choose_spec (H j hjl)).2
    rw [hj] at h2
    exact ⟨by simpa [itC] using h2 0 (by omega), by simpa [itC] using h2 1 (by omega), by simpa [itC] using h2 2 (by omega), by simpa [itC] using h2 3 (by omega)⟩
  · obtain ⟨i, rfl⟩ := (List.mem_ofFn).1 ht
    exact (Classical.choose_spec (H i.1 i.2)).1
def litI (t : It) : Bool := decide (t.u.size ≤ 60) && decide (t.c.size ≤ 2000)
def lightB (card : ByteArray) (xs : List It) : Bool := decide (card.size ≤ 2000) && decide (xs.length ≤ 120) && xs.all litI
set_option maxHeartbeats 8000000 in
theorem light_any {w : World} {A : Option Addr} {len cap b off : Nat} {xs : List It} (h : Its w A len cap b off xs) (k e tok ver : Int) (card : ByteArray) (idx : Int) (more : Bool) : Calls Try.prog 20 #[.agg #[.int .i64 k, .int .i64 e, .int .i64 tok, .int .i64 ver, .string card, .int .i64 idx, .bool more, .slice A len cap]] w fun r w' => r = .returned (.bool (lightB card xs)) ∧ Below w.heap.size w w' := by
  have HX0 := Lib.hid ((Bxs.start w).new 35 #[.int .i64 k, .int .i64 e, .int .i64 tok, .int .i64 ver, .string card, .int .i64 idx, .bool more, .slice A len cap])
  have HI := Lib.hid h
  have hlen := h.hlen
  obtain ⟨r, hr⟩ : ∃ r, lightB card xs = r := ⟨_, rfl⟩
  have HR0 := Lib.hid hr.symm
  rw [hr]
  clear hr h
  by_cases n0 : (card.size : Int) > 2000
  · have H0 := Lib.hid (show r = false by rw [HR0.out]; unfold lightB; rw [decide_eq_false (by omega)]; rfl)
    go_enter Try.func20, Try.ntmps20
    go_wp2
    go_ret
    exact ⟨by rw [H0.out]; rfl, HX0.out.bel⟩
  by_cases n1 : (len : Int) > 120
  · have H0 := Lib.hid (show r = false by rw [HR0.out]; unfold lightB; rw [decide_eq_false (show ¬ xs.length ≤ 120 by omega), Bool.and_false]; rfl)
    go_enter Try.func20, Try.ntmps20
    go_wp2
    go_ret
    exact ⟨by rw [H0.out]; rfl, HX0.out.bel⟩
  have HR := Lib.hid (show r = xs.all litI by
    rw [HR0.out]; unfold lightB
    rw [decide_eq_true (show card.size ≤ 2000 by omega), decide_eq_true (show xs.length ≤ 120 by omega)]
    rfl)
  clear HR0
  have hlc := HI.out.le
  have hnI : (len : Int) ≤ 120 := by omega
  go_enter Try.func20, Try.ntmps20
  go_wp2
  go_loopw [3] (fun i wr => ∃ q : Nat, q ≤ len ∧ i = .int .i64 (q : Int) ∧ (xs.take q).all litI = true ∧ Bxs w wr [(w.heap.size, 35, #[.int .i64 k, .int .i64 e, .int .i64 tok, .int .i64 ver, .string card, .int .i64 idx, .bool more, .slice A len cap])]) (fun i _ => len - (intOf i).toNat)
  case atStart => exact ⟨0, Nat.zero_le _, rfl, by simp, HX0.out⟩
  case round =>
    obtain ⟨q, hq, rfl, hall, hB⟩ := hrel
    have HBR := Lib.hid hB
    have HAL := Lib.hid hall
    have x7 := (hB.get 0 rfl).cell 7
    clear hB hall
    by_cases hql : q < len
    · obtain ⟨t, ht⟩ : ∃ t, xs[q]? = some t := ⟨xs[q]'(by rw [HI.out.hlen]; exact hql), List.getElem?_eq_getElem _⟩
      obtain ⟨rfl, hbl⟩ := HI.out.addr (by omega)
      obtain ⟨c0, c1, c2, c3⟩ := (HI.out.below HBR.out.bel (fun _ => hbl)).cell q t ht
      have HSN := Lib.hid (all_snoc litI xs q t ht)
      have HMI := Lib.hid (all_miss litI xs q t ht)
      have hqI : (q : Int) < (len : Int) := by omega
      obtain ⟨tu, tv, tx, tc⟩ := t
      simp only at c0 c1 c2 c3
      clear ht
      by_cases hu : (tu.size : Int) > 60
      · have H0 := Lib.hid (show r = false by rw [HR.out, HMI.out (by unfold litI; rw [decide_eq_false (show ¬ tu.size ≤ 60 by omega)]; rfl)])
        clear HSN HMI
        go_wp2
        go_ret
        exact ⟨by rw [H0.out]; rfl, HBR.out.bel⟩
      by_cases hc : (tc.size : Int) > 2000
      · have H0 := Lib.hid (show r = false by rw [HR.out, HMI.out (by unfold litI; rw [decide_eq_false (show ¬ tc.size ≤ 2000 by omega)]; simp)])
        clear HSN HMI
        go_wp2
        go_ret
        exact ⟨by rw [H0.out]; rfl, HBR.out.bel⟩
      have HN := Lib.hid (show (xs.take (q + 1)).all litI = true by rw [HSN.out, HAL.out, Bool.true_and]; unfold litI; rw [decide_eq_true (show tc.size ≤ 2000 by omega), decide_eq_true (show tu.size ≤ 60 by omega)]; rfl)
      clear HSN HMI
      go_wp2
      go_roundw
      case rel => exact ⟨q + 1, by omega, by go_num, HN.out, HBR.out⟩
      case measure => simp [intOf]; omega
    · obtain rfl : q = len := by omega
      have H0 := Lib.hid (show r = true by rw [HR.out, all_full litI xs _ (by rw [HI.out.hlen]; omega) HAL.out])
      go_wp2
      go_ret
      exact ⟨by rw [H0.out]; rfl, HBR.out.bel⟩
set_option maxHeartbeats 4000000 in
theorem alike_any {w : World} {A B : Option Addr} {len capA capB ba bb oa ob : Nat} {xs : List It} (h : Its w A len capA ba oa xs) (k : Its w B len capB bb ob xs) (hn : len ≤ 100000) : Calls Try.prog 19 #[.slice A len capA, .slice B len capB] w fun r w' => r = .returned (.bool true) ∧ Below w.heap.size w w' := by
  have HA := Lib.hid h
  have HB := Lib.hid k
  have hlen := h.hlen
  have hla := h.le
  have hlb := k.le
  have hnI : (len : Int) ≤ 100000 := by omega
  have H0 := Lib.hid (Below.refl w.heap.size w)
  clear h k
  go_enter Try.func19, Try.ntmps19
  go_wp2
  go_loopw [5] (fun i wr => ∃ q : Nat, q ≤ len ∧ i = .int .i64 (q : Int) ∧ Below w.heap.size w wr) (fun i _ => len - (intOf i).toNat)
  case atStart => exact ⟨0, Nat.zero_le _, rfl, H0.out⟩
  case round =>
    obtain ⟨q, hq, rfl, hB⟩ := hrel
    have HR := Lib.hid hB
    clear hB
    by_cases hql : q < len
    · obtain ⟨t, ht⟩ : ∃ t, xs[q]? = some t := ⟨xs[q]'(by rw [HA.out.hlen]; exact hql), List.getElem?_eq_getElem _⟩
      obtain ⟨rfl, hbl⟩ := HA.out.addr (by omega)
      obtain ⟨rfl, hbk⟩ := HB.out.addr (by omega)
      obtain ⟨c0, c1, c2, c3⟩ := (HA.out.below HR.out (fun _ => hbl)).cell q t ht
      obtain ⟨d0, d1, d2, d3⟩ := (HB.out.below HR.out (fun _ => hbk)).cell q t ht
      have hqI : (q : Int) < (len : Int) := by omega
      obtain ⟨tu, tv, tx, tc⟩ := t
      simp only at c0 c1 c2 c3 d0 d1 d2 d3
      clear ht
      go_wp2_with fail
      go_quiet (fail)
      have HQ := Lib.hid (below_drewN HR.out nq)
      go_wp2
      go_roundw
      case rel => exact ⟨q + 1, by omega, by go_num, HQ.out⟩
      case measure => simp [intOf]; omega
    · obtain rfl : q = len := by omega
      go_wp2
      go_ret
      exact ⟨rfl, HR.out⟩
end Go.Proofs.Ytpmgabeefppajaa
