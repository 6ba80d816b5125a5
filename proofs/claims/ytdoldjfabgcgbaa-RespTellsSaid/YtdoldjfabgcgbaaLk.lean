/- Answers: Check, Encode. -/
import Derived.Test.YtdoldjfabgcgbaaLc
namespace Go.Proofs.Ytdoldjfabgcgbaa
open Go.RowKit
open Go.Lib hiding intOf
set_option linter.unusedVariables false
set_option linter.unusedSimpArgs false
set_option maxRecDepth 20000
def bytesR (e tok ver : Int) (card : ByteArray) (idx : Int) (more : Bool) (xs : List It) : List UInt8 := headB e tok ver card idx more (xs.length : Int) ++ itsB xs
def checkR (k e tok ver : Int) (card : ByteArray) (idx : Int) (more : Bool) (xs : List It) : Int :=
  if rangedB k e tok ver idx xs = true then (if shortB card xs = true ∧ (bytesR e tok ver card idx more xs).length ≤ 20000 then 0 else 2) else 12
theorem fine_of {xs : List It} {card : ByteArray} (hs : shortB card xs = true) (hv : ∀ t ∈ xs, t.v < 9223372036854775808) : (∀ t ∈ xs, Fine t) ∧ card.size ≤ 900 := by
  unfold shortB at hs
  rw [Bool.and_eq_true, List.all_eq_true] at hs
  refine ⟨fun t ht => ?_, by simpa using hs.1⟩
  have := hs.2 t ht
  unfold small at this
  simp only [Bool.and_eq_true, decide_eq_true_eq] at this
  exact ⟨by omega, hv t ht, by omega⟩
theorem ranged_le {k e tok ver idx : Int} {xs : List It} (h : rangedB k e tok ver idx xs = true) : xs.length ≤ 100 ∧ e ≤ 15 ∧ idx ≤ 2147483647 := by
  unfold rangedB at h
  simp only [Bool.and_eq_true, decide_eq_true_eq] at h
  omega
section
variable {w : World} {A : Option Addr} {len cap b off : Nat} {xs : List It}
/-- lay, of an answer that is in range and short. -/
theorem lay_on (h : Its w A len cap b off xs) (k e tok ver : Int) (card : ByteArray) (idx : Int) (more : Bool) (ht : tok < 9223372036854775808) (hv : ver < 9223372036854775808) (hx : ∀ t ∈ xs, t.v < 9223372036854775808)
    (hr : rangedB k e tok ver idx xs = true) (hs : shortB card xs = true) :
    Calls Try.prog 17 #[.agg #[.int .i64 k, .int .i64 e, .int .i64 tok, .int .i64 ver, .string card, .int .i64 idx, .bool more, .slice A len cap]] w fun r w' => ∃ v, r = .returned v ∧ Own 5 w.heap.size w' v (bytesR e tok ver card idx more xs) ∧ Below w.heap.size w w' := by
  obtain ⟨g1, g2, g3⟩ := ranged_le hr
  obtain ⟨f1, f2⟩ := fine_of hs hx
  have := lay_any h f1 (by have := h.hlen; omega) k e tok ver card idx more (by omega) ht hv (by omega) (by omega)
  unfold bytesR
  rw [h.hlen]
  exact this
set_option maxHeartbeats 8000000 in
theorem check_any (h : Its w A len cap b off xs) (k e tok ver : Int) (card : ByteArray) (idx : Int) (more : Bool) (ht : tok < 9223372036854775808) (hv : ver < 9223372036854775808) (hx : ∀ t ∈ xs, t.v < 9223372036854775808) :
    Calls Try.prog 13 #[.agg #[.int .i64 k, .int .i64 e, .int .i64 tok, .int .i64 ver, .string card, .int .i64 idx, .bool more, .slice A len cap]] w fun r w' => r = .returned (.int .i64 (checkR k e tok ver card idx more xs)) ∧ Below w.heap.size w w' := by
  have HX0 := Lib.hid ((Bxs.start w).new 25 #[.int .i64 k, .int .i64 e, .int .i64 tok, .int .i64 ver, .string card, .int .i64 idx, .bool more, .slice A len cap])
  have HI := Lib.hid (fun W (hb : Below w.heap.size w W) => h.below hb (fun hl => (h.addr hl).2))
  obtain ⟨r, hr⟩ : ∃ r, checkR k e tok ver card idx more xs = r := ⟨_, rfl⟩
  have HR := Lib.hid (show (if rangedB k e tok ver idx xs = true then (if shortB card xs = true ∧ (bytesR e tok ver card idx more xs).length ≤ 20000 then 0 else 2) else 12) = r from hr)
  have HRA := Lib.hid (fun W hb => ranged_any (HI.out W hb) k e tok ver card idx more)
  have hlen := h.hlen
  have HSH := Lib.hid (fun (hrg : rangedB k e tok ver idx xs = true) W hb => short_any (HI.out W hb) k e tok ver card idx more (by have := (ranged_le hrg); omega))
  have HLA := Lib.hid (fun W hb => lay_on (HI.out W hb) k e tok ver card idx more ht hv hx)
  rw [hr]
  obtain ⟨rb, hrb⟩ : ∃ x, rangedB k e tok ver idx xs = x := ⟨_, rfl⟩
  obtain ⟨sb, hsb⟩ : ∃ x, shortB card xs = x := ⟨_, rfl⟩
  rw [hrb, hsb] at HR HLA
  rw [hrb] at HRA
  rw [hrb, hsb] at HSH
  clear h hr hrb hsb ht hv hx
  obtain ⟨BS, hBS⟩ : ∃ x, bytesR e tok ver card idx more xs = x := ⟨_, rfl⟩
  rw [hBS] at HR HLA
  clear hBS
  go_enter Try.func13, Try.ntmps13
  go_wp2_with fail
  refine (HRA.out _ HX0.out.bel).mono ?_
  rintro _ w1 ⟨rfl, hb⟩
  have HX1 := Lib.hid (HX0.out.step hb)
  clear hb
  have a1_0 := (HX1.out.get 0 rfl).cell 0
  have a1_1 := (HX1.out.get 0 rfl).cell 1
  have a1_2 := (HX1.out.get 0 rfl).cell 2
  have a1_3 := (HX1.out.get 0 rfl).cell 3
  have a1_4 := (HX1.out.get 0 rfl).cell 4
  have a1_5 := (HX1.out.get 0 rfl).cell 5
  have a1_6 := (HX1.out.get 0 rfl).cell 6
  have a1_7 := (HX1.out.get 0 rfl).cell 7
  cases rb with
  | false =>
    have H0 := Lib.hid (show r = 12 from HR.out.symm)
    go_wp2
    go_ret
    exact ⟨by rw [H0.out]; rfl, HX1.out.bel⟩
  | true =>
    go_wp2_with fail
    refine (HSH.out (by trivial) _ HX1.out.bel).mono ?_
    rintro _ w2 ⟨rfl, hb⟩
    have HX2 := Lib.hid (HX1.out.step hb)
    clear hb
    have a2_0 := (HX2.out.get 0 rfl).cell 0
    have a2_1 := (HX2.out.get 0 rfl).cell 1
    have a2_2 := (HX2.out.get 0 rfl).cell 2
    have a2_3 := (HX2.out.get 0 rfl).cell 3
    have a2_4 := (HX2.out.get 0 rfl).cell 4
    have a2_5 := (HX2.out.get 0 rfl).cell 5
    have a2_6 := (HX2.out.get 0 rfl).cell 6
    have a2_7 := (HX2.out.get 0 rfl).cell 7
    cases sb with
    | false =>
      have H0 := Lib.hid (show r = 2 by rw [← HR.out]; simp)
      go_wp2
      go_ret
      exact ⟨by rw [H0.out]; rfl, HX2.out.bel⟩
    | true =>
      go_wp2_with fail
      refine (HLA.out _ HX2.out.bel (by trivial) (by trivial)).mono ?_
      rintro _ w3 ⟨v, rfl, h1, hb⟩
      have HX3 := Lib.hid (HX2.out.step hb)
      obtain ⟨A3, cap3, b3, rfl, _⟩ := h1.byt
      clear h1 hb
      by_cases hl : (BS.length : Int) > 20000
      · have H0 := Lib.hid (show r = 2 by rw [← HR.out]; simp; omega)
        go_wp2
        go_ret
        exact ⟨by rw [H0.out]; rfl, HX3.out.bel⟩
      · have H0 := Lib.hid (show r = 0 by rw [← HR.out]; simp; omega)
        go_wp2
        go_ret
        exact ⟨by rw [H0.out]; rfl, HX3.out.bel⟩
theorem checkR_ok {k e tok ver : Int} {card : ByteArray} {idx : Int} {more : Bool} {xs : List It} (h : checkR k e tok ver card idx more xs = 0) : rangedB k e tok ver idx xs = true ∧ shortB card xs = true ∧ (bytesR e tok ver card idx more xs).length ≤ 20000 := by
  unfold checkR at h
  split at h
  · rename_i h1
    split at h
    · rename_i h2; exact ⟨h1, h2.1, h2.2⟩
    · cases h
  · cases h
set_option maxHeartbeats 8000000 in
theorem encode_any (h : Its w A len cap b off xs) (k e tok ver : Int) (card : ByteArray) (idx : Int) (more : Bool) (ht : tok < 9223372036854775808) (hv : ver < 9223372036854775808) (hx : ∀ t ∈ xs, t.v < 9223372036854775808) :
    Calls Try.prog 9 #[.agg #[.int .i64 k, .int .i64 e, .int .i64 tok, .int .i64 ver, .string card, .int .i64 idx, .bool more, .slice A len cap]] w fun r w' => ∃ v, r = .returned (.tuple #[v, .int .i64 (checkR k e tok ver card idx more xs)]) ∧ (checkR k e tok ver card idx more xs ≠ 0 → v = .slice none 0 0) ∧ (checkR k e tok ver card idx more xs = 0 → Own 5 w.heap.size w' v (bytesR e tok ver card idx more xs)) ∧ Below w.heap.size w w' := by
  have HX0 := Lib.hid ((Bxs.start w).new 25 #[.int .i64 k, .int .i64 e, .int .i64 tok, .int .i64 ver, .string card, .int .i64 idx, .bool more, .slice A len cap])
  have HI := Lib.hid (fun W (hb : Below w.heap.size w W) => h.below hb (fun hl => (h.addr hl).2))
  have HCH := Lib.hid (fun W hb => check_any (HI.out W hb) k e tok ver card idx more ht hv hx)
  have HLA := Lib.hid (fun W hb => lay_on (HI.out W hb) k e tok ver card idx more ht hv hx)
  have HOK := Lib.hid (fun (h : checkR k e tok ver card idx more xs = 0) => checkR_ok h)
  obtain ⟨r, hr⟩ : ∃ r, checkR k e tok ver card idx more xs = r := ⟨_, rfl⟩
  rw [hr] at HCH HOK ⊢
  clear h hr ht hv hx
  by_cases h0 : r = 0
  · subst h0
    have HLB := Lib.hid (fun W hb => HLA.out W hb (HOK.out rfl).1 (HOK.out rfl).2.1)
    clear HLA HOK
    go_enter Try.func9, Try.ntmps9
    go_wp2_with fail
    refine (HCH.out _ HX0.out.bel).mono ?_
    rintro _ w1 ⟨rfl, hb⟩
    have HX1 := Lib.hid (HX0.out.step hb)
    clear hb
    have a1_0 := (HX1.out.get 0 rfl).cell 0
    have a1_1 := (HX1.out.get 0 rfl).cell 1
    have a1_2 := (HX1.out.get 0 rfl).cell 2
    have a1_3 := (HX1.out.get 0 rfl).cell 3
    have a1_4 := (HX1.out.get 0 rfl).cell 4
    have a1_5 := (HX1.out.get 0 rfl).cell 5
    have a1_6 := (HX1.out.get 0 rfl).cell 6
    have a1_7 := (HX1.out.get 0 rfl).cell 7
    go_wp2_with fail
    refine (HLB.out _ HX1.out.bel).mono ?_
    rintro _ w2 ⟨v, rfl, h1, hb⟩
    have HX2 := Lib.hid (HX1.out.step hb)
    have HO := Lib.hid (h1.mono HX1.out.bel.size)
    clear h1 hb
    go_wp2
    go_ret2
    exact ⟨v, rfl, fun h => absurd rfl h, fun _ => HO.out, HX2.out.bel⟩
  · have d0 : (r != 0) = true := by simpa using h0
    have HN := Lib.hid h0
    clear h0 HLA HOK
    go_enter Try.func9, Try.ntmps9
    go_wp2_with fail
    refine (HCH.out _ HX0.out.bel).mono ?_
    rintro _ w1 ⟨rfl, hb⟩
    have HX1 := Lib.hid (HX0.out.step hb)
    clear hb
    go_wp2
    go_ret2
    exact ⟨_, rfl, fun _ => rfl, fun h => absurd h HN.out, HX1.out.bel⟩
end
end Go.Proofs.Ytdoldjfabgcgbaa
