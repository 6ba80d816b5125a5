/- An answer that came in; is it light? -/
import Derived.Test.YtdoldjfabgcgbaaWx
import Derived.Test.YtdoldjfabgcgbaaSlice
namespace Go.Proofs.Ytdoldjfabgcgbaa
open Go.RowKit
open Go.Lib hiding intOf
set_option linter.unusedVariables false
set_option linter.unusedSimpArgs false
set_option maxRecDepth 20000
abbrev shIt : Sh := Sh.agg 4 [(0, 1, Sh.str), (1, 1, Sh.int .i64), (2, 1, Sh.bool), (3, 1, Sh.str)]
theorem it_open {w : World} {cs : List Value} (h : Sh.ok w shIt cs) : ∃ t : It, cs = itC t ∧ t.v < 9223372036854775808 ∧ t.u.size ≤ maxLen ∧ t.c.size ≤ maxLen := by
  simp only [Sh.ok, Sh.okAll] at h
  obtain ⟨hl, ⟨u, e0, hu⟩, ⟨v, e1, hv⟩, ⟨x, e2⟩, ⟨c, e3, hc⟩, _⟩ := h
  match cs, hl with
  | [c0, c1, c2, c3], _ =>
    simp at e0 e1 e2 e3
    subst e0 e1 e2 e3
    refine ⟨⟨u, v, x, c⟩, rfl, ?_, hu, hc⟩
    simp [Lit.wf, IntKind.min, IntKind.max, IntKind.signed, IntKind.bits] at hv
    show v < _
    omega
theorem its_open {w : World} {A : Option Addr} {len cap : Nat} (S : Sh.ok w (Sh.slice 4 shIt) [.slice A len cap]) : ∃ b off xs, Its w A len cap b off xs ∧ (∀ t ∈ xs, t.v < 9223372036854775808) := by
  obtain ⟨b, off, hle, hmax, ha, hc⟩ := slice_at S (by omega)
  have H : ∀ i, i < len → ∃ t : It, t.v < 9223372036854775808 ∧ ∀ j, j < 4 → w.cell? ⟨b, off + i * 4 + j, none⟩ = (itC t)[j]? := by
    intro i hi
    obtain ⟨cs, hl, hok, hcell⟩ := hc i hi
    obtain ⟨t, rfl, h1, _⟩ := it_open hok
    exact ⟨t, h1, hcell⟩
  refine ⟨b, off, List.ofFn (fun i : Fin len => Classical.choose (H i.1 i.2)), ⟨by simp, hle, ha, fun j t hj => ?_⟩, fun t ht => ?_⟩
  · have hjl : j < len := by have := (List.getElem?_eq_some_iff.1 hj).1; simpa using this
    rw [List.getElem?_eq_getElem (by simpa using hjl)] at hj
    simp only [List.getElem_ofFn, Option.some.injEq] at hj
    have h2 := (Classical.choose_spec (H j hjl)).2
    rw [hj] at h2
    exact ⟨by simpa [itC] using h2 0 (by omega), by simpa [itC] using h2 1 (by omega), by simpa [itC] using h2 2 (by omega), by simpa [itC] using h2 3 (by omega)⟩
  · obtain ⟨i, rfl⟩ := (List.mem_ofFn).1 ht
    exact (Classical.choose_spec (H i.1 i.2)).1
def litI (t : It) : Bool := decide (t.u.size ≤ 60) && decide (t.c.size ≤ 2000)
def lightB (card : ByteArray) (xs : List It) : Bool := decide (card.size ≤ 2000) && decide (xs.length ≤ 120) && xs.all litI
set_option maxHeartbeats 8000000 in
theorem light_any {w : World} {A : Option Addr} {len cap b off : Nat} {xs : List It} (h : Its w A len cap b off xs) (k e tok ver : Int) (card : ByteArray) (idx : Int) (more : Bool) : Calls Try.prog 8 #[.agg #[.int .i64 k, .int .i64 e, .int .i64 tok, .int .i64 ver, .string card, .int .i64 idx, .bool more, .slice A len cap]] w fun r w' => r = .returned (.bool (lightB card xs)) ∧ Below w.heap.size w w' := by
  have HX0 := Lib.hid ((Bxs.start w).new 25 #[.int .i64 k, .int .i64 e, .int .i64 tok, .int .i64 ver, .string card, .int .i64 idx, .bool more, .slice A len cap])
  have HI := Lib.hid h
  have hlen := h.hlen
  obtain ⟨r, hr⟩ : ∃ r, lightB card xs = r := ⟨_, rfl⟩
  have HR0 := Lib.hid hr.symm
  rw [hr]
  clear hr h
  by_cases n0 : (card.size : Int) > 2000
  · have H0 := Lib.hid (show r = false by rw [HR0.out]; unfold lightB; rw [decide_eq_false (by omega)]; rfl)
    go_enter Try.func8, Try.ntmps8
    go_wp2
    go_ret
    exact ⟨by rw [H0.out]; rfl, HX0.out.bel⟩
  by_cases n1 : (len : Int) > 120
  · have H0 := Lib.hid (show r = false by rw [HR0.out]; unfold lightB; rw [decide_eq_false (show ¬ xs.length ≤ 120 by omega), Bool.and_false]; rfl)
    go_enter Try.func8, Try.ntmps8
    go_wp2
    go_ret
    exact ⟨by rw [H0.out]; rfl, HX0.out.bel⟩
  have HR := Lib.hid (show r = xs.all litI by
    rw [HR0.out]; unfold lightB
    rw [decide_eq_true (show card.size ≤ 2000 by omega), decide_eq_true (show xs.length ≤ 120 by omega)]
    rfl)
  clear HR0
  have hlc := HI.out.le
  have hnI : (len : Int) ≤ 120 := by omega
  go_enter Try.func8, Try.ntmps8
  go_wp2
  go_loopw [3] (fun i wr => ∃ q : Nat, q ≤ len ∧ i = .int .i64 (q : Int) ∧ (xs.take q).all litI = true ∧ Bxs w wr [(w.heap.size, 25, #[.int .i64 k, .int .i64 e, .int .i64 tok, .int .i64 ver, .string card, .int .i64 idx, .bool more, .slice A len cap])]) (fun i _ => len - (intOf i).toNat)
  case atStart => exact ⟨0, Nat.zero_le _, rfl, by simp, HX0.out⟩
  case round =>
    obtain ⟨q, hq, rfl, hall, hB⟩ := hrel
    have HBR := Lib.hid hB
    have HAL := Lib.hid hall
    have x7 := (hB.get 0 rfl).cell 7
    clear hB hall
    by_cases hql : q < len
    · obtain ⟨t, ht⟩ : ∃ t, xs[q]? = some t := ⟨xs[q]'(by rw [HI.out.hlen]; exact hql), List.getElem?_eq_getElem _⟩
      obtain ⟨rfl, hbl⟩ := HI.out.addr (by omega)
      obtain ⟨c0, c1, c2, c3⟩ := (HI.out.below HBR.out.bel (fun _ => hbl)).cell q t ht
      have HSN := Lib.hid (all_snoc litI xs q t ht)
      have HMI := Lib.hid (all_miss litI xs q t ht)
      have hqI : (q : Int) < (len : Int) := by omega
      obtain ⟨tu, tv, tx, tc⟩ := t
      simp only at c0 c1 c2 c3
      clear ht
      by_cases hu : (tu.size : Int) > 60
      · have H0 := Lib.hid (show r = false by rw [HR.out, HMI.out (by unfold litI; rw [decide_eq_false (show ¬ tu.size ≤ 60 by omega)]; rfl)])
        clear HSN HMI
        go_wp2
        go_ret
        exact ⟨by rw [H0.out]; rfl, HBR.out.bel⟩
      by_cases hc : (tc.size : Int) > 2000
      · have H0 := Lib.hid (show r = false by rw [HR.out, HMI.out (by unfold litI; rw [decide_eq_false (show ¬ tc.size ≤ 2000 by omega)]; simp)])
        clear HSN HMI
        go_wp2
        go_ret
        exact ⟨by rw [H0.out]; rfl, HBR.out.bel⟩
      have HN := Lib.hid (show (xs.take (q + 1)).all litI = true by rw [HSN.out, HAL.out, Bool.true_and]; unfold litI; rw [decide_eq_true (show tc.size ≤ 2000 by omega), decide_eq_true (show tu.size ≤ 60 by omega)]; rfl)
      clear HSN HMI
      go_wp2
      go_roundw
      case rel => exact ⟨q + 1, by omega, by go_num, HN.out, HBR.out⟩
      case measure => simp [intOf]; omega
    · obtain rfl : q = len := by omega
      have H0 := Lib.hid (show r = true by rw [HR.out, all_full litI xs _ (by rw [HI.out.hlen]; omega) HAL.out])
      go_wp2
      go_ret
      exact ⟨by rw [H0.out]; rfl, HBR.out.bel⟩
end Go.Proofs.Ytdoldjfabgcgbaa
