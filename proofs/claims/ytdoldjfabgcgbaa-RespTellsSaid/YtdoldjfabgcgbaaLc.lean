/- Answers: may they be; laid in bytes. -/
import Derived.Test.YtdoldjfabgcgbaaLz
namespace Go.Proofs.Ytdoldjfabgcgbaa
open Go.RowKit
open Go.Lib hiding intOf
set_option linter.unusedVariables false
set_option linter.unusedSimpArgs false
set_option maxRecDepth 20000
def nonneg (t : It) : Bool := decide (0 ≤ t.v)
def small (t : It) : Bool := decide (t.c.size ≤ 900) && decide (t.u.size ≤ 24)
def rangedB (k e tok ver idx : Int) (xs : List It) : Bool := decide (0 ≤ k) && decide (k ≤ 11) && decide (0 ≤ e) && decide (e ≤ 15) && decide (0 ≤ tok) && decide (0 ≤ ver) && decide (0 ≤ idx) && decide (idx ≤ 2147483647) && decide (xs.length ≤ 100) && xs.all nonneg
def shortB (card : ByteArray) (xs : List It) : Bool := decide (card.size ≤ 900) && xs.all small
theorem all_snoc (p : It → Bool) (xs : List It) (q : Nat) (t : It) (h : xs[q]? = some t) : (xs.take (q + 1)).all p = ((xs.take q).all p && p t) := by
  rw [List.take_add_one, h]; simp
theorem all_miss (p : It → Bool) (xs : List It) (q : Nat) (t : It) (h : xs[q]? = some t) (hp : p t = false) : xs.all p = false := by
  rw [List.all_eq_false]
  exact ⟨t, List.mem_of_getElem? h, by rw [hp]; decide⟩
theorem all_full (p : It → Bool) (xs : List It) (q : Nat) (h : xs.length ≤ q) (hq : (xs.take q).all p = true) : xs.all p = true := by
  rw [List.take_of_length_le h] at hq; exact hq
set_option maxHeartbeats 8000000 in
theorem ranged_any {w : World} {A : Option Addr} {len cap b off : Nat} {xs : List It} (h : Its w A len cap b off xs) (k e tok ver : Int) (card : ByteArray) (idx : Int) (more : Bool) : Calls Try.prog 31 #[.agg #[.int .i64 k, .int .i64 e, .int .i64 tok, .int .i64 ver, .string card, .int .i64 idx, .bool more, .slice A len cap]] w fun r w' => r = .returned (.bool (rangedB k e tok ver idx xs)) ∧ Below w.heap.size w w' := by
  have HX0 := Lib.hid ((Bxs.start w).new 25 #[.int .i64 k, .int .i64 e, .int .i64 tok, .int .i64 ver, .string card, .int .i64 idx, .bool more, .slice A len cap])
  have HI := Lib.hid h
  have hlen := h.hlen
  obtain ⟨r, hr⟩ : ∃ r, rangedB k e tok ver idx xs = r := ⟨_, rfl⟩
  have HR0 := Lib.hid hr.symm
  rw [hr]
  clear hr h
  by_cases n0 : k < 0
  · have H0 := Lib.hid (show r = false by rw [HR0.out]; unfold rangedB; simp only [Bool.and_eq_false_iff, decide_eq_false_iff_not]; omega)
    go_enter Try.func31, Try.ntmps31
    go_wp2
    go_ret
    exact ⟨by rw [H0.out]; rfl, HX0.out.bel⟩
  by_cases n1 : 11 < k
  · have H0 := Lib.hid (show r = false by rw [HR0.out]; unfold rangedB; simp only [Bool.and_eq_false_iff, decide_eq_false_iff_not]; omega)
    go_enter Try.func31, Try.ntmps31
    go_wp2
    go_ret
    exact ⟨by rw [H0.out]; rfl, HX0.out.bel⟩
  by_cases n2 : e < 0
  · have H0 := Lib.hid (show r = false by rw [HR0.out]; unfold rangedB; simp only [Bool.and_eq_false_iff, decide_eq_false_iff_not]; omega)
    go_enter Try.func31, Try.ntmps31
    go_wp2
    go_ret
    exact ⟨by rw [H0.out]; rfl, HX0.out.bel⟩
  by_cases n3 : 15 < e
  · have H0 := Lib.hid (show r = false by rw [HR0.out]; unfold rangedB; simp only [Bool.and_eq_false_iff, decide_eq_false_iff_not]; omega)
    go_enter Try.func31, Try.ntmps31
    go_wp2
    go_ret
    exact ⟨by rw [H0.out]; rfl, HX0.out.bel⟩
  by_cases n4 : tok < 0
  · have H0 := Lib.hid (show r = false by rw [HR0.out]; unfold rangedB; simp only [Bool.and_eq_false_iff, decide_eq_false_iff_not]; omega)
    go_enter Try.func31, Try.ntmps31
    go_wp2
    go_ret
    exact ⟨by rw [H0.out]; rfl, HX0.out.bel⟩
  by_cases n5 : ver < 0
  · have H0 := Lib.hid (show r = false by rw [HR0.out]; unfold rangedB; simp only [Bool.and_eq_false_iff, decide_eq_false_iff_not]; omega)
    go_enter Try.func31, Try.ntmps31
    go_wp2
    go_ret
    exact ⟨by rw [H0.out]; rfl, HX0.out.bel⟩
  by_cases n6 : idx < 0
  · have H0 := Lib.hid (show r = false by rw [HR0.out]; unfold rangedB; simp only [Bool.and_eq_false_iff, decide_eq_false_iff_not]; omega)
    go_enter Try.func31, Try.ntmps31
    go_wp2
    go_ret
    exact ⟨by rw [H0.out]; rfl, HX0.out.bel⟩
  by_cases n7 : 2147483647 < idx
  · have H0 := Lib.hid (show r = false by rw [HR0.out]; unfold rangedB; simp only [Bool.and_eq_false_iff, decide_eq_false_iff_not]; omega)
    go_enter Try.func31, Try.ntmps31
    go_wp2
    go_ret
    exact ⟨by rw [H0.out]; rfl, HX0.out.bel⟩
  by_cases n8 : (100 : Int) < (len : Int)
  · have H0 := Lib.hid (show r = false by rw [HR0.out]; unfold rangedB; simp only [Bool.and_eq_false_iff, decide_eq_false_iff_not]; omega)
    go_enter Try.func31, Try.ntmps31
    go_wp2
    go_ret
    exact ⟨by rw [H0.out]; rfl, HX0.out.bel⟩
  have HR := Lib.hid (show r = xs.all nonneg by
    rw [HR0.out]; unfold rangedB
    rw [decide_eq_true (show 0 ≤ k by omega), decide_eq_true (show k ≤ 11 by omega), decide_eq_true (show 0 ≤ e by omega), decide_eq_true (show e ≤ 15 by omega), decide_eq_true (show 0 ≤ tok by omega), decide_eq_true (show 0 ≤ ver by omega), decide_eq_true (show 0 ≤ idx by omega), decide_eq_true (show idx ≤ 2147483647 by omega), decide_eq_true (show xs.length ≤ 100 by omega)]
    rfl)
  clear HR0
  have hlc := HI.out.le
  go_enter Try.func31, Try.ntmps31
  go_wp2
  go_loopw [50] (fun i wr => ∃ q : Nat, q ≤ len ∧ i = .int .i64 (q : Int) ∧ (xs.take q).all nonneg = true ∧ Below w.heap.size w wr) (fun i _ => len - (intOf i).toNat)
  case atStart => exact ⟨0, Nat.zero_le _, rfl, by simp, HX0.out.bel⟩
  case round =>
    obtain ⟨q, hq, rfl, hall, hB⟩ := hrel
    have HBR := Lib.hid hB
    have HAL := Lib.hid hall
    clear hB hall
    by_cases hql : q < len
    · obtain ⟨t, ht⟩ : ∃ t, xs[q]? = some t := ⟨xs[q]'(by rw [HI.out.hlen]; exact hql), List.getElem?_eq_getElem _⟩
      obtain ⟨rfl, hbl⟩ := HI.out.addr (by omega)
      obtain ⟨c0, c1, c2, c3⟩ := (HI.out.below HBR.out (fun _ => hbl)).cell q t ht
      have HSN := Lib.hid (all_snoc nonneg xs q t ht)
      have HMI := Lib.hid (all_miss nonneg xs q t ht)
      have hqI : (q : Int) < (len : Int) := by omega
      obtain ⟨tu, tv, tx, tc⟩ := t
      simp only at c0 c1 c2 c3
      clear ht
      by_cases hv : tv < 0
      · have H0 := Lib.hid (show r = false by rw [HR.out, HMI.out (by unfold nonneg; exact decide_eq_false (by show ¬ 0 ≤ tv; omega))])
        clear HSN HMI
        go_wp2
        go_ret
        exact ⟨by rw [H0.out]; rfl, HBR.out.alloc HBR.out.size _⟩
      have HN := Lib.hid (show (xs.take (q + 1)).all nonneg = true by rw [HSN.out, HAL.out, Bool.true_and]; unfold nonneg; exact decide_eq_true (by show 0 ≤ tv; omega))
      clear HSN HMI
      go_wp2
      go_roundw
      case rel => exact ⟨q + 1, by omega, by go_num, HN.out, HBR.out.alloc HBR.out.size _⟩
      case measure => simp [intOf]; omega
    · obtain rfl : q = len := by omega
      have H0 := Lib.hid (show r = true by rw [HR.out, all_full nonneg xs _ (by rw [HI.out.hlen]; omega) HAL.out])
      go_wp2
      go_ret
      exact ⟨by rw [H0.out]; rfl, HBR.out⟩
set_option maxHeartbeats 8000000 in
theorem short_any {w : World} {A : Option Addr} {len cap b off : Nat} {xs : List It} (h : Its w A len cap b off xs) (k e tok ver : Int) (card : ByteArray) (idx : Int) (more : Bool) (hn : len ≤ 1000) : Calls Try.prog 32 #[.agg #[.int .i64 k, .int .i64 e, .int .i64 tok, .int .i64 ver, .string card, .int .i64 idx, .bool more, .slice A len cap]] w fun r w' => r = .returned (.bool (shortB card xs)) ∧ Below w.heap.size w w' := by
  have HX0 := Lib.hid ((Bxs.start w).new 25 #[.int .i64 k, .int .i64 e, .int .i64 tok, .int .i64 ver, .string card, .int .i64 idx, .bool more, .slice A len cap])
  have HI := Lib.hid h
  have hlen := h.hlen
  obtain ⟨r, hr⟩ : ∃ r, shortB card xs = r := ⟨_, rfl⟩
  have HR0 := Lib.hid hr.symm
  rw [hr]
  clear hr h
  have hnI : (len : Int) ≤ 1000 := by omega
  by_cases n0 : (card.size : Int) > 900
  · have H0 := Lib.hid (show r = false by rw [HR0.out]; unfold shortB; rw [decide_eq_false (by omega)]; rfl)
    go_enter Try.func32, Try.ntmps32
    go_wp2
    go_ret
    exact ⟨by rw [H0.out]; rfl, HX0.out.bel⟩
  have HR := Lib.hid (show r = xs.all small by
    rw [HR0.out]; unfold shortB
    rw [decide_eq_true (show card.size ≤ 900 by omega)]
    rfl)
  clear HR0
  have hlc := HI.out.le
  go_enter Try.func32, Try.ntmps32
  go_wp2
  go_loopw [12] (fun i wr => ∃ q : Nat, q ≤ len ∧ i = .int .i64 (q : Int) ∧ (xs.take q).all small = true ∧ Below w.heap.size w wr) (fun i _ => len - (intOf i).toNat)
  case atStart => exact ⟨0, Nat.zero_le _, rfl, by simp, HX0.out.bel⟩
  case round =>
    obtain ⟨q, hq, rfl, hall, hB⟩ := hrel
    have HBR := Lib.hid hB
    have HAL := Lib.hid hall
    clear hB hall
    by_cases hql : q < len
    · obtain ⟨t, ht⟩ : ∃ t, xs[q]? = some t := ⟨xs[q]'(by rw [HI.out.hlen]; exact hql), List.getElem?_eq_getElem _⟩
      obtain ⟨rfl, hbl⟩ := HI.out.addr (by omega)
      obtain ⟨c0, c1, c2, c3⟩ := (HI.out.below HBR.out (fun _ => hbl)).cell q t ht
      have HSN := Lib.hid (all_snoc small xs q t ht)
      have HMI := Lib.hid (all_miss small xs q t ht)
      have hqI : (q : Int) < (len : Int) := by omega
      obtain ⟨tu, tv, tx, tc⟩ := t
      simp only at c0 c1 c2 c3
      clear ht
      by_cases hc : (tc.size : Int) > 900
      · have H0 := Lib.hid (show r = false by rw [HR.out, HMI.out (by unfold small; rw [decide_eq_false (by show ¬ tc.size ≤ 900; omega)]; rfl)])
        clear HSN HMI
        go_wp2
        go_ret
        exact ⟨by rw [H0.out]; rfl, HBR.out.alloc HBR.out.size _⟩
      by_cases hu : (tu.size : Int) > 24
      · have H0 := Lib.hid (show r = false by rw [HR.out, HMI.out (by unfold small; rw [decide_eq_false (show ¬ tu.size ≤ 24 by omega)]; simp)])
        clear HSN HMI
        go_wp2
        go_ret
        exact ⟨by rw [H0.out]; rfl, HBR.out.alloc HBR.out.size _⟩
      have HN := Lib.hid (show (xs.take (q + 1)).all small = true by rw [HSN.out, HAL.out, Bool.true_and]; unfold small; rw [decide_eq_true (show tc.size ≤ 900 by omega), decide_eq_true (show tu.size ≤ 24 by omega)]; rfl)
      clear HSN HMI
      go_wp2
      go_roundw
      case rel => exact ⟨q + 1, by omega, by go_num, HN.out, HBR.out.alloc HBR.out.size _⟩
      case measure => simp [intOf]; omega
    · obtain rfl : q = len := by omega
      have H0 := Lib.hid (show r = true by rw [HR.out, all_full small xs _ (by rw [HI.out.hlen]; omega) HAL.out])
      go_wp2
      go_ret
      exact ⟨by rw [H0.out]; rfl, HBR.out⟩
end Go.Proofs.Ytdoldjfabgcgbaa
