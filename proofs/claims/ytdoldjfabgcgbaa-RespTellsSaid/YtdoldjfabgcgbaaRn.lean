/- The reader's Num and Text: their walks. -/
import Derived.Test.YtdoldjfabgcgbaaRt
namespace Go.Proofs.Ytdoldjfabgcgbaa
open Go.RowKit
set_option linter.unusedVariables false
set_option maxRecDepth 20000
theorem num_ok {w : World} {g : Nat} {s : ByteArray} {P n k : Nat} (h : Rd w g s P 0) (hs : s.size ≤ 1000000) (hP : P ≤ s.size) (hr : rt (s.data.toList.drop P) = (n, k, 0)) :
    Calls Try.prog 21 #[.pointer (some ⟨g, 0, none⟩)] w fun r w' => r = .returned (.int .i64 (n : Int)) ∧ Rd w' g s ((P : Int) + (k : Int)) 0 ∧ Below g w w' := by
  have hk := (rt_ok hr).2.2.1
  have hlen : (s.data.toList.drop P).length = s.size - P := by rw [List.length_drop, Array.length_toList]; rfl
  have hk2 : (P : Int) + (k : Int) ≤ 1000000 := by omega
  have CN := Lib.hid (rdn_any h hs hP)
  have HE := Lib.hid (show rta (s.data.toList.drop P) = #[.int .i64 (n : Int), .int .i64 (k : Int), .int .i64 0] by unfold rta; rw [hr])
  have HR := Lib.hid h
  clear h hr hk hlen
  go_enter Try.func21, Try.ntmps21
  go_wp2_with (
    go_at_call 42
    refine CN.out.mono ?_
    rintro _ w2 ⟨rfl, h2⟩
    rw [HE.out]
    have HB : Blk w2 g 65 #[.string s, .int .i64 (P : Int), .int .i64 0] := HR.out.below h2 HR.out.lt
    have c1 := HB.cell 1
    have f1 := HB.frozen 1
    have HB2 := Lib.hid (HB.set_ 1 (.int .i64 ((P : Int) + (k : Int))))
    have H2 := Lib.hid ((h2.mono (Nat.le_of_lt HR.out.lt)).setCell (p := ⟨g, 1, none⟩) (Nat.le_refl _) (.int .i64 ((P : Int) + (k : Int))))
    simp only [List.getElem?_toArray, List.getElem?_cons_zero, List.getElem?_cons_succ] at c1
    clear h2 HB)
  go_ret
  exact ⟨rfl, HB2.out, H2.out⟩
theorem num_bad {w : World} {g : Nat} {s : ByteArray} {P : Nat} {e : Int} (h : Rd w g s P 0) (hs : s.size ≤ 1000000) (hP : P ≤ s.size) (hr : (rt (s.data.toList.drop P)).2.2 = e) (he : e ≠ 0) :
    Calls Try.prog 21 #[.pointer (some ⟨g, 0, none⟩)] w fun r w' => r = .returned (.int .i64 0) ∧ Rd w' g s P e ∧ Below g w w' := by
  have hb := rt_bad (l := s.data.toList.drop P) (by rw [hr]; exact he)
  have CN := Lib.hid (rdn_any h hs hP)
  have HE := Lib.hid (show rta (s.data.toList.drop P) = #[.int .i64 0, .int .i64 0, .int .i64 e] by unfold rta; rw [hr, hb.1, hb.2]; rfl)
  have hbe : (e != 0) = true := by simpa using he
  have HR := Lib.hid h
  clear h hr hb
  go_enter Try.func21, Try.ntmps21
  go_wp2_with (
    go_at_call 42
    refine CN.out.mono ?_
    rintro _ w2 ⟨rfl, h2⟩
    rw [HE.out]
    have HB : Blk w2 g 65 #[.string s, .int .i64 (P : Int), .int .i64 0] := HR.out.below h2 HR.out.lt
    have c2 := HB.cell 2
    have f2 := HB.frozen 2
    have HB2 := Lib.hid (HB.set_ 2 (.int .i64 e))
    have H2 := Lib.hid ((h2.mono (Nat.le_of_lt HR.out.lt)).setCell (p := ⟨g, 2, none⟩) (Nat.le_refl _) (.int .i64 e))
    simp only [List.getElem?_toArray, List.getElem?_cons_zero, List.getElem?_cons_succ] at c2
    clear h2 HB)
  go_ret
  exact ⟨rfl, HB2.out, H2.out⟩
theorem fits_any {w : World} {g : Nat} {s : ByteArray} {P k : Nat} {n most : Int} (h : Rd w g s P 0) (hs : s.size ≤ 1000000) (hP : P + k ≤ s.size) (hn : 0 ≤ n) :
    Calls Try.prog 49 #[.pointer (some ⟨g, 0, none⟩), .int .i64 n, .int .i64 (k : Int), .int .i64 most] w fun r w' => r = .returned (.int .i64 (if (s.size : Int) - P - k < n then 14 else if most < n then 2 else 0)) ∧ Below w.heap.size w w' := by
  have CL := Lib.hid (left_any h (by omega) (by omega) hs)
  have HR := Lib.hid h
  clear h
  by_cases h1 : (s.size : Int) - P - k < n
  · rw [if_pos h1]
    go_enter Try.func49, Try.ntmps49
    go_wp2_with (go_at_call 45; refine CL.out.mono ?_; rintro _ w2 ⟨rfl, h2⟩; have H2 := Lib.hid h2; clear h2)
    go_ret
    exact ⟨rfl, H2.out⟩
  · rw [if_neg h1]
    by_cases h2 : most < n
    · rw [if_pos h2]
      go_enter Try.func49, Try.ntmps49
      go_wp2_with (go_at_call 45; refine CL.out.mono ?_; rintro _ w2 ⟨rfl, h2⟩; have H2 := Lib.hid h2; clear h2)
      go_ret
      exact ⟨rfl, H2.out⟩
    · rw [if_neg h2]
      go_enter Try.func49, Try.ntmps49
      go_wp2_with (go_at_call 45; refine CL.out.mono ?_; rintro _ w2 ⟨rfl, h2⟩; have H2 := Lib.hid h2; clear h2)
      go_ret
      exact ⟨rfl, H2.out⟩
end Go.Proofs.Ytdoldjfabgcgbaa
