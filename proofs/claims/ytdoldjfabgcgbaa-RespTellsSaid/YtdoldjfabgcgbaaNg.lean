/- The reference: may an answer be; laid in bytes. -/
import Derived.Test.YtdoldjfabgcgbaaNf
namespace Go.Proofs.Ytdoldjfabgcgbaa
open Go.RowKit
open Go.Lib hiding intOf
set_option linter.unusedVariables false
set_option linter.unusedSimpArgs false
set_option maxRecDepth 100000
section
variable {w : World} {A : Option Addr} {len cap b off : Nat} {xs : List It}
theorem rlay_on (h : Its w A len cap b off xs) (k e tok ver : Int) (card : ByteArray) (idx : Int) (more : Bool) (ht : tok < 9223372036854775808) (hv : ver < 9223372036854775808) (hx : ∀ t ∈ xs, t.v < 9223372036854775808)
    (hr : rangedB k e tok ver idx xs = true) (hs : shortB card xs = true) :
    Calls Try.prog 18 #[.agg #[.int .i64 k, .int .i64 e, .int .i64 tok, .int .i64 ver, .string card, .int .i64 idx, .bool more, .slice A len cap]] w fun r w' => ∃ v, r = .returned v ∧ Own 5 w.heap.size w' v (bytesR e tok ver card idx more xs) ∧ Below w.heap.size w w' := by
  obtain ⟨g1, g2, g3⟩ := ranged_le hr
  obtain ⟨f1, f2⟩ := fine_of hs hx
  have := rlay_any h f1 (by have := h.hlen; omega) k e tok ver card idx more (by omega) ht hv (by omega) (by omega)
  unfold bytesR
  rw [h.hlen]
  exact this
set_option maxHeartbeats 8000000 in
theorem rcheck_any (h : Its w A len cap b off xs) (k e tok ver : Int) (card : ByteArray) (idx : Int) (more : Bool) (ht : tok < 9223372036854775808) (hv : ver < 9223372036854775808) (hx : ∀ t ∈ xs, t.v < 9223372036854775808) :
    Calls Try.prog 14 #[.agg #[.int .i64 k, .int .i64 e, .int .i64 tok, .int .i64 ver, .string card, .int .i64 idx, .bool more, .slice A len cap]] w fun r w' => r = .returned (.int .i64 (checkR k e tok ver card idx more xs)) ∧ Below w.heap.size w w' := by
  have HX0 := Lib.hid ((Bxs.start w).new 25 #[.int .i64 k, .int .i64 e, .int .i64 tok, .int .i64 ver, .string card, .int .i64 idx, .bool more, .slice A len cap])
  have HI := Lib.hid h
  have hlen := h.hlen
  have HLA := Lib.hid (fun W (hb : Below w.heap.size w W) => rlay_on (h.below hb (fun hl => (h.addr hl).2)) k e tok ver card idx more ht hv hx)
  obtain ⟨r, hr⟩ : ∃ r, checkR k e tok ver card idx more xs = r := ⟨_, rfl⟩
  have HR0 := Lib.hid hr.symm
  rw [hr]
  clear hr h ht hv hx
  by_cases n0 : k < 0
  · have H0 := Lib.hid (show r = 12 by rw [HR0.out]; unfold checkR; rw [if_neg (fun h => by unfold rangedB at h; simp only [Bool.and_eq_true, decide_eq_true_eq] at h; omega)])
    go_enter Try.func14, Try.ntmps14
    go_wp2
    go_ret
    exact ⟨by rw [H0.out]; rfl, HX0.out.bel⟩
  by_cases n1 : 11 < k
  · have H0 := Lib.hid (show r = 12 by rw [HR0.out]; unfold checkR; rw [if_neg (fun h => by unfold rangedB at h; simp only [Bool.and_eq_true, decide_eq_true_eq] at h; omega)])
    go_enter Try.func14, Try.ntmps14
    go_wp2
    go_ret
    exact ⟨by rw [H0.out]; rfl, HX0.out.bel⟩
  by_cases n2 : e < 0
  · have H0 := Lib.hid (show r = 12 by rw [HR0.out]; unfold checkR; rw [if_neg (fun h => by unfold rangedB at h; simp only [Bool.and_eq_true, decide_eq_true_eq] at h; omega)])
    go_enter Try.func14, Try.ntmps14
    go_wp2
    go_ret
    exact ⟨by rw [H0.out]; rfl, HX0.out.bel⟩
  by_cases n3 : 15 < e
  · have H0 := Lib.hid (show r = 12 by rw [HR0.out]; unfold checkR; rw [if_neg (fun h => by unfold rangedB at h; simp only [Bool.and_eq_true, decide_eq_true_eq] at h; omega)])
    go_enter Try.func14, Try.ntmps14
    go_wp2
    go_ret
    exact ⟨by rw [H0.out]; rfl, HX0.out.bel⟩
  by_cases n4 : tok < 0
  · have H0 := Lib.hid (show r = 12 by rw [HR0.out]; unfold checkR; rw [if_neg (fun h => by unfold rangedB at h; simp only [Bool.and_eq_true, decide_eq_true_eq] at h; omega)])
    go_enter Try.func14, Try.ntmps14
    go_wp2
    go_ret
    exact ⟨by rw [H0.out]; rfl, HX0.out.bel⟩
  by_cases n5 : ver < 0
  · have H0 := Lib.hid (show r = 12 by rw [HR0.out]; unfold checkR; rw [if_neg (fun h => by unfold rangedB at h; simp only [Bool.and_eq_true, decide_eq_true_eq] at h; omega)])
    go_enter Try.func14, Try.ntmps14
    go_wp2
    go_ret
    exact ⟨by rw [H0.out]; rfl, HX0.out.bel⟩
  by_cases n6 : idx < 0
  · have H0 := Lib.hid (show r = 12 by rw [HR0.out]; unfold checkR; rw [if_neg (fun h => by unfold rangedB at h; simp only [Bool.and_eq_true, decide_eq_true_eq] at h; omega)])
    go_enter Try.func14, Try.ntmps14
    go_wp2
    go_ret
    exact ⟨by rw [H0.out]; rfl, HX0.out.bel⟩
  by_cases n7 : 2147483647 < idx
  · have H0 := Lib.hid (show r = 12 by rw [HR0.out]; unfold checkR; rw [if_neg (fun h => by unfold rangedB at h; simp only [Bool.and_eq_true, decide_eq_true_eq] at h; omega)])
    go_enter Try.func14, Try.ntmps14
    go_wp2
    go_ret
    exact ⟨by rw [H0.out]; rfl, HX0.out.bel⟩
  by_cases n8 : 100 < (len : Int)
  · have H0 := Lib.hid (show r = 12 by rw [HR0.out]; unfold checkR; rw [if_neg (fun h => by unfold rangedB at h; simp only [Bool.and_eq_true, decide_eq_true_eq] at h; omega)])
    go_enter Try.func14, Try.ntmps14
    go_wp2
    go_ret
    exact ⟨by rw [H0.out]; rfl, HX0.out.bel⟩
  have HRG := Lib.hid (show rangedB k e tok ver idx xs = xs.all nonneg by
    unfold rangedB
    rw [decide_eq_true (show 0 ≤ k by omega), decide_eq_true (show k ≤ 11 by omega), decide_eq_true (show 0 ≤ e by omega), decide_eq_true (show e ≤ 15 by omega), decide_eq_true (show 0 ≤ tok by omega), decide_eq_true (show 0 ≤ ver by omega), decide_eq_true (show 0 ≤ idx by omega), decide_eq_true (show idx ≤ 2147483647 by omega), decide_eq_true (show xs.length ≤ 100 by omega)]
    rfl)
  have hlc := HI.out.le
  have hnI : (len : Int) ≤ 100 := by omega
  go_enter Try.func14, Try.ntmps14
  go_wp2
  go_loopw [3] (fun i wr => ∃ q : Nat, q ≤ len ∧ i = .int .i64 (q : Int) ∧ (xs.take q).all nonneg = true ∧ Bxs w wr [(w.heap.size, 25, #[.int .i64 k, .int .i64 e, .int .i64 tok, .int .i64 ver, .string card, .int .i64 idx, .bool more, .slice A len cap])]) (fun i _ => len - (intOf i).toNat)
  case atStart => exact ⟨0, Nat.zero_le _, rfl, by simp, HX0.out⟩
  case round =>
    obtain ⟨q, hq, rfl, hall, hB⟩ := hrel
    have HBR := Lib.hid hB
    have HAL := Lib.hid hall
    have x7 := (hB.get 0 rfl).cell 7
    have x4 := (hB.get 0 rfl).cell 4
    clear hB hall
    by_cases hql : q < len
    · obtain ⟨t, ht⟩ : ∃ t, xs[q]? = some t := ⟨xs[q]'(by rw [HI.out.hlen]; exact hql), List.getElem?_eq_getElem _⟩
      obtain ⟨rfl, hbl⟩ := HI.out.addr (by omega)
      obtain ⟨c0, c1, c2, c3⟩ := (HI.out.below HBR.out.bel (fun _ => hbl)).cell q t ht
      have HSN := Lib.hid (all_snoc nonneg xs q t ht)
      have HMI := Lib.hid (all_miss nonneg xs q t ht)
      have hqI : (q : Int) < (len : Int) := by omega
      obtain ⟨tu, tv, tx, tc⟩ := t
      simp only at c0 c1 c2 c3
      clear ht
      by_cases hu : tv < 0
      · have H0 := Lib.hid (show r = 12 by rw [HR0.out]; unfold checkR; rw [if_neg (fun h => by rw [HRG.out, HMI.out (by unfold nonneg; exact decide_eq_false (show ¬ 0 ≤ tv by omega))] at h; cases h)])
        clear HSN HMI
        go_wp2
        go_ret
        exact ⟨by rw [H0.out]; rfl, HBR.out.bel⟩
      have HN := Lib.hid (show (xs.take (q + 1)).all nonneg = true by rw [HSN.out, HAL.out, Bool.true_and]; unfold nonneg; exact decide_eq_true (show 0 ≤ tv by omega))
      clear HSN HMI
      go_wp2
      go_roundw
      case rel => exact ⟨q + 1, by omega, by go_num, HN.out, HBR.out⟩
      case measure => simp [intOf]; omega
    · obtain rfl : q = len := by omega
      have HRT := Lib.hid (show rangedB k e tok ver idx xs = true by rw [HRG.out]; exact all_full nonneg xs _ (by rw [HI.out.hlen]; omega) HAL.out)
      have HR1 := Lib.hid (show r = (if shortB card xs = true ∧ (bytesR e tok ver card idx more xs).length ≤ 20000 then 0 else 2) by rw [HR0.out]; unfold checkR; rw [if_pos HRT.out])
      clear HR0 HRG HAL
      by_cases m0 : (card.size : Int) > 900
      · have H0 := Lib.hid (show r = 2 by rw [HR1.out, if_neg (fun h => by have := h.1; unfold shortB at this; simp only [Bool.and_eq_true, decide_eq_true_eq] at this; omega)])
        go_wp2
        go_ret
        exact ⟨by rw [H0.out]; rfl, HBR.out.bel⟩
      have HSB := Lib.hid (show shortB card xs = xs.all small by unfold shortB; rw [decide_eq_true (show card.size ≤ 900 by omega)]; rfl)
      go_wp2
      go_loopw [4] (fun i w2 => ∃ p : Nat, p ≤ q ∧ i = .int .i64 (p : Int) ∧ (xs.take p).all small = true ∧ Bxs w w2 [(w.heap.size, 25, #[.int .i64 k, .int .i64 e, .int .i64 tok, .int .i64 ver, .string card, .int .i64 idx, .bool more, .slice A q cap])]) (fun i _ => q - (intOf i).toNat)
      case atStart => exact ⟨0, Nat.zero_le _, rfl, by simp, HBR.out⟩
      case round =>
        obtain ⟨p, hp, rfl, hall, hB⟩ := hrel
        have HB2 := Lib.hid hB
        have HA2 := Lib.hid hall
        have y0 := (hB.get 0 rfl).cell 0
        have y1 := (hB.get 0 rfl).cell 1
        have y2 := (hB.get 0 rfl).cell 2
        have y3 := (hB.get 0 rfl).cell 3
        have y4 := (hB.get 0 rfl).cell 4
        have y5 := (hB.get 0 rfl).cell 5
        have y6 := (hB.get 0 rfl).cell 6
        have y7 := (hB.get 0 rfl).cell 7
        clear hB hall
        by_cases hpl : p < q
        · obtain ⟨t, ht⟩ : ∃ t, xs[p]? = some t := ⟨xs[p]'(by rw [HI.out.hlen]; exact hpl), List.getElem?_eq_getElem _⟩
          obtain ⟨rfl, hbl⟩ := HI.out.addr (by omega)
          obtain ⟨c0, c1, c2, c3⟩ := (HI.out.below HB2.out.bel (fun _ => hbl)).cell p t ht
          have HSN := Lib.hid (all_snoc small xs p t ht)
          have HMI := Lib.hid (all_miss small xs p t ht)
          have hpI : (p : Int) < (q : Int) := by omega
          obtain ⟨tu, tv, tx, tc⟩ := t
          simp only at c0 c1 c2 c3
          clear ht
          by_cases hc : (tc.size : Int) > 900
          · have H0 := Lib.hid (show r = 2 by rw [HR1.out, if_neg (fun h => by have := h.1; rw [HSB.out, HMI.out (by unfold small; rw [decide_eq_false (by show ¬ tc.size ≤ 900; omega)]; rfl)] at this; cases this)])
            clear HSN HMI
            go_wp2
            go_ret
            exact ⟨by rw [H0.out]; rfl, HB2.out.bel⟩
          by_cases hu : (tu.size : Int) > 24
          · have H0 := Lib.hid (show r = 2 by rw [HR1.out, if_neg (fun h => by have := h.1; rw [HSB.out, HMI.out (by unfold small; rw [decide_eq_false (show ¬ tu.size ≤ 24 by omega)]; simp)] at this; cases this)])
            clear HSN HMI
            go_wp2
            go_ret
            exact ⟨by rw [H0.out]; rfl, HB2.out.bel⟩
          have HN := Lib.hid (show (xs.take (p + 1)).all small = true by rw [HSN.out, HA2.out, Bool.true_and]; unfold small; rw [decide_eq_true (show tc.size ≤ 900 by omega), decide_eq_true (show tu.size ≤ 24 by omega)]; rfl)
          clear HSN HMI
          go_wp2
          go_roundw
          case rel => exact ⟨p + 1, by omega, by go_num, HN.out, HB2.out⟩
          case measure => simp [intOf]; omega
        · obtain rfl : p = q := by omega
          have HST := Lib.hid (show shortB card xs = true by rw [HSB.out]; exact all_full small xs _ (by rw [HI.out.hlen]; omega) HA2.out)
          have HLB := Lib.hid (HLA.out _ HB2.out.bel HRT.out HST.out)
          obtain ⟨BS, hBS⟩ : ∃ x, bytesR e tok ver card idx more xs = x := ⟨_, rfl⟩
          rw [hBS] at HR1 HLB
          clear hBS
          go_wp2_with fail
          refine HLB.out.mono ?_
          rintro _ w3 ⟨v, rfl, h1, hb⟩
          have HX3 := Lib.hid (HB2.out.step hb)
          obtain ⟨A3, cap3, b3, rfl, _⟩ := h1.byt
          clear h1 hb
          by_cases hl : (BS.length : Int) > 20000
          · have H0 := Lib.hid (show r = 2 by rw [HR1.out, if_neg (fun h => by have := h.2; omega)])
            go_wp2
            go_ret
            exact ⟨by rw [H0.out]; rfl, HX3.out.bel⟩
          · have H0 := Lib.hid (show r = 0 by rw [HR1.out, if_pos ⟨HST.out, by omega⟩])
            go_wp2
            go_ret
            exact ⟨by rw [H0.out]; rfl, HX3.out.bel⟩
set_option maxHeartbeats 8000000 in
theorem rencode_any (h : Its w A len cap b off xs) (k e tok ver : Int) (card : ByteArray) (idx : Int) (more : Bool) (ht : tok < 9223372036854775808) (hv : ver < 9223372036854775808) (hx : ∀ t ∈ xs, t.v < 9223372036854775808) :
    Calls Try.prog 10 #[.agg #[.int .i64 k, .int .i64 e, .int .i64 tok, .int .i64 ver, .string card, .int .i64 idx, .bool more, .slice A len cap]] w fun r w' => ∃ v, r = .returned (.tuple #[v, .int .i64 (checkR k e tok ver card idx more xs)]) ∧ (checkR k e tok ver card idx more xs ≠ 0 → v = .slice none 0 0) ∧ (checkR k e tok ver card idx more xs = 0 → Own 5 w.heap.size w' v (bytesR e tok ver card idx more xs)) ∧ Below w.heap.size w w' := by
  have HX0 := Lib.hid ((Bxs.start w).new 25 #[.int .i64 k, .int .i64 e, .int .i64 tok, .int .i64 ver, .string card, .int .i64 idx, .bool more, .slice A len cap])
  have HI := Lib.hid (fun W (hb : Below w.heap.size w W) => h.below hb (fun hl => (h.addr hl).2))
  have HCH := Lib.hid (fun W hb => rcheck_any (HI.out W hb) k e tok ver card idx more ht hv hx)
  have HLA := Lib.hid (fun W hb => rlay_on (HI.out W hb) k e tok ver card idx more ht hv hx)
  have HOK := Lib.hid (fun (h : checkR k e tok ver card idx more xs = 0) => checkR_ok h)
  obtain ⟨r, hr⟩ : ∃ r, checkR k e tok ver card idx more xs = r := ⟨_, rfl⟩
  rw [hr] at HCH HOK ⊢
  clear h hr ht hv hx
  by_cases h0 : r = 0
  · subst h0
    have HLB := Lib.hid (fun W hb => HLA.out W hb (HOK.out rfl).1 (HOK.out rfl).2.1)
    clear HLA HOK
    go_enter Try.func10, Try.ntmps10
    go_wp2_with fail
    refine (HCH.out _ HX0.out.bel).mono ?_
    rintro _ w1 ⟨rfl, hb⟩
    have HX1 := Lib.hid (HX0.out.step hb)
    clear hb
    have a1_0 := (HX1.out.get 0 rfl).cell 0
    have a1_1 := (HX1.out.get 0 rfl).cell 1
    have a1_2 := (HX1.out.get 0 rfl).cell 2
    have a1_3 := (HX1.out.get 0 rfl).cell 3
    have a1_4 := (HX1.out.get 0 rfl).cell 4
    have a1_5 := (HX1.out.get 0 rfl).cell 5
    have a1_6 := (HX1.out.get 0 rfl).cell 6
    have a1_7 := (HX1.out.get 0 rfl).cell 7
    go_wp2_with fail
    refine (HLB.out _ HX1.out.bel).mono ?_
    rintro _ w2 ⟨v, rfl, h1, hb⟩
    have HX2 := Lib.hid (HX1.out.step hb)
    have HO := Lib.hid (h1.mono HX1.out.bel.size)
    clear h1 hb
    go_wp2
    go_ret2
    exact ⟨v, rfl, fun h => absurd rfl h, fun _ => HO.out, HX2.out.bel⟩
  · have d0 : (r != 0) = true := by simpa using h0
    have HN := Lib.hid h0
    clear h0 HLA HOK
    go_enter Try.func10, Try.ntmps10
    go_wp2_with fail
    refine (HCH.out _ HX0.out.bel).mono ?_
    rintro _ w1 ⟨rfl, hb⟩
    have HX1 := Lib.hid (HX0.out.step hb)
    clear hb
    go_wp2
    go_ret2
    exact ⟨_, rfl, fun _ => rfl, fun h => absurd h HN.out, HX1.out.bel⟩
end
end Go.Proofs.Ytdoldjfabgcgbaa
