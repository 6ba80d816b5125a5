/- Answers laid in bytes: one item. -/
import Derived.Test.YtdoldjfabgcgbaaNum
import Derived.Test.YtdoldjfabgcgbaaBy
namespace Go.Proofs.Ytdoldjfabgcgbaa
open Go.RowKit
set_option linter.unusedVariables false
set_option maxRecDepth 20000
theorem nil_byt (W : World) : Byt W none 0 0 0 0 [] := ⟨rfl, Nat.le_refl _, Nat.zero_le _, fun h => absurd h (by simp), fun j u hu => by simp at hu⟩
def b01 (x : Bool) : Int := if x = true then 1 else 0
theorem mark_any (x : Bool) (w : World) : Calls Try.prog 36 #[.bool x] w fun e w' => e = .returned (.int .i64 (b01 x)) ∧ w' = w := by
  cases x
  · go_enter Try.func36, Try.ntmps36
    go_wp2
    go_ret
    exact ⟨rfl, rfl⟩
  · go_enter Try.func36, Try.ntmps36
    go_wp2
    go_ret
    exact ⟨rfl, rfl⟩
def encI (u : ByteArray) (v : Int) (x : Bool) (c : ByteArray) : List UInt8 := enct u ++ encz v ++ encz (b01 x) ++ enct c
theorem encz_len (n : Int) (hn : n < 9223372036854775808) : (encz n).length ≤ 9 := by
  unfold encz
  split
  · simp
  · exact enc_length _ (by omega)
theorem enct_len (s : ByteArray) (hs : s.size ≤ 1000000) : (enct s).length ≤ s.size + 9 := by
  have := enc_length s.size (by omega)
  have h2 : s.data.toList.length = s.size := Array.length_toList
  unfold enct
  rw [List.length_append, h2]
  omega
theorem enct_len2 (s : ByteArray) (hs : s.size ≤ 2000) : (enct s).length ≤ 2009 := by have := enct_len s (by omega); omega
/-- Num, wherever the walk stands, onto bytes of its own. -/
theorem num_on {B : Nat} {w : World} {v : Value} {l : List UInt8} (h : Own 5 B w v l) (hB : B ≤ w.heap.size) (hl : l.length ≤ 600000) (n : Int) (hn : n < 9223372036854775808) : Calls Try.prog 34 #[v, .int .i64 n] w fun e w' => ∃ v', e = .returned v' ∧ Own 5 B w' v' (l ++ encz n) ∧ Below w.heap.size w w' := by
  obtain ⟨A, cap, b, rfl, hb⟩ := h.byt
  exact (num_any hb (by omega) n hn).mono fun _ _ ⟨v', h1, h2, h3⟩ => ⟨v', h1, h2.mono hB, h3⟩
theorem text_on {B : Nat} {w : World} {v : Value} {l : List UInt8} (h : Own 5 B w v l) (hB : B ≤ w.heap.size) (hl : l.length ≤ 600000) (s : ByteArray) (hs : s.size ≤ 1000000) : Calls Try.prog 35 #[v, .string s] w fun e w' => ∃ v', e = .returned v' ∧ Own 5 B w' v' (l ++ enct s) ∧ Below w.heap.size w w' := by
  obtain ⟨A, cap, b, rfl, hb⟩ := h.byt
  exact (text_any hb (by omega) s hs).mono fun _ _ ⟨v', h1, h2, h3⟩ => ⟨v', h1, h2.mono hB, h3⟩
set_option maxHeartbeats 4000000 in
theorem layItem_any (u : ByteArray) (v : Int) (x : Bool) (c : ByteArray) (hu : u.size ≤ 2000) (hv : v < 9223372036854775808) (hc : c.size ≤ 100000) (w : World) :
    Calls Try.prog 37 #[.agg #[.string u, .int .i64 v, .bool x, .string c]] w fun e w' => ∃ r, e = .returned r ∧ Own 5 w.heap.size w' r (encI u v x c) ∧ Below w.heap.size w w' := by
  have HX0 := Lib.hid ((Bxs.start w).new 39 #[.string u, .int .i64 v, .bool x, .string c])
  have HM := Lib.hid (mark_any x)
  have l1 := enct_len2 u hu
  have l2 := encz_len v hv
  have l3 := encz_len (b01 x) (by cases x <;> decide)
  have HV := Lib.hid hv
  have HE := Lib.hid (show encI u v x c = enct u ++ encz v ++ encz (b01 x) ++ enct c from rfl)
  obtain ⟨L, hL⟩ : ∃ L, encI u v x c = L := ⟨_, rfl⟩
  rw [hL] at HE ⊢
  have h01 : b01 x < 9223372036854775808 := by cases x <;> decide
  have H01 := Lib.hid h01
  obtain ⟨m, hm⟩ : ∃ m, b01 x = m := ⟨_, rfl⟩
  rw [hm] at HM HE l3 H01
  clear hL hm hv h01
  go_enter Try.func37, Try.ntmps37
  go_wp2_with (go_at_call 35; refine (text_on (Own.nil 5 w.heap.size _ none) (by simp) (by simp) u (by omega)).mono ?_; rintro _ w1 ⟨r1, rfl, h1, h2⟩; have HX1 := Lib.hid (HX0.out.step h2); have HO1 := Lib.hid h1; have HS1 := Lib.hid HX1.out.bel.size; have a10 := (HX1.out.get 0 rfl).cell 0; have a11 := (HX1.out.get 0 rfl).cell 1; have a12 := (HX1.out.get 0 rfl).cell 2; have a13 := (HX1.out.get 0 rfl).cell 3; clear h1 h2)
  go_wp2_with (go_at_call 34; refine (num_on HO1.out HS1.out (by simp only [List.length_append, List.length_nil]; omega) v HV.out).mono ?_; rintro _ w2 ⟨r2, rfl, h1, h2⟩; have HX2 := Lib.hid (HX1.out.step h2); have HO2 := Lib.hid h1; have HS2 := Lib.hid HX2.out.bel.size; have a20 := (HX2.out.get 0 rfl).cell 0; have a21 := (HX2.out.get 0 rfl).cell 1; have a22 := (HX2.out.get 0 rfl).cell 2; have a23 := (HX2.out.get 0 rfl).cell 3; clear h1 h2)
  go_wp2_with (go_at_call 36; refine (HM.out _).mono ?_; rintro _ x1 ⟨rfl, hw⟩; replace hw := hw.symm; subst hw)
  go_wp2_with (go_at_call 34; refine (num_on HO2.out HS2.out (by simp only [List.length_append, List.length_nil]; omega) m H01.out).mono ?_; rintro _ w3 ⟨r3, rfl, h1, h2⟩; have HX3 := Lib.hid (HX2.out.step h2); have HO3 := Lib.hid h1; have HS3 := Lib.hid HX3.out.bel.size; have a30 := (HX3.out.get 0 rfl).cell 0; have a31 := (HX3.out.get 0 rfl).cell 1; have a32 := (HX3.out.get 0 rfl).cell 2; have a33 := (HX3.out.get 0 rfl).cell 3; clear h1 h2)
  go_wp2_with (go_at_call 35; refine (text_on HO3.out HS3.out (by simp only [List.length_append, List.length_nil]; omega) c (by omega)).mono ?_; rintro _ w4 ⟨r4, rfl, h1, h2⟩; have HX4 := Lib.hid (HX3.out.step h2); have HO4 := Lib.hid h1; have HS4 := Lib.hid HX4.out.bel.size; have a40 := (HX4.out.get 0 rfl).cell 0; have a41 := (HX4.out.get 0 rfl).cell 1; have a42 := (HX4.out.get 0 rfl).cell 2; have a43 := (HX4.out.get 0 rfl).cell 3; clear h1 h2)
  go_ret
  refine ⟨r4, rfl, ?_, HX4.out.bel⟩
  have := HO4.out
  rw [HE.out]
  simpa using this
end Go.Proofs.Ytdoldjfabgcgbaa
