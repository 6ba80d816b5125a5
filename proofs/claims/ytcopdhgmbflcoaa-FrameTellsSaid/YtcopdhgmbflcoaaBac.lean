/- FrameBack: its walk. -/
import Derived.Test.YtcopdhgmbflcoaaTud
namespace Go.Proofs.Ytcopdhgmbflcoaa
open Go.RowKit
set_option linter.unusedVariables false
theorem pbs_back (k : Nat) (hk : (k : Int) ≤ 255) (s : ByteArray) (hs : s.size ≤ 20000) (more : List UInt8) : fnx (pbs k s ++ more) = #[.agg #[.int .i64 (k : Int), .string s], .int .i64 ((s.size : Int) + 6), .int .i64 0] := by
  rw [pbs_pbl k (by omega) hk s, fnx_pbl _ _ _ (by rw [Array.length_toList]; exact hs), Array.length_toList, UInt8.toNat_ofNat', Int.toNat_natCast, Nat.mod_eq_of_lt (by omega)]
  rfl
theorem pbs_cut (k : Nat) (hk : (k : Int) ≤ 255) (s : ByteArray) (hs : s.size ≤ 20000) (c : Nat) (hc : c < s.size + 6) : fnx ((pbs k s).take c) = #[.agg #[.int .i64 0, .string ⟨#[]⟩], .int .i64 0, .int .i64 14] := by
  rw [pbs_pbl k (by omega) hk s]
  exact pbl_cut _ _ (by rw [Array.length_toList]; exact hs) c (by rw [Array.length_toList]; exact hc)
set_option maxHeartbeats 1000000 in
theorem back_go (w : World) (a0 : Int) (s : ByteArray) (A : Option Addr) (len cap b off : Nat) (l : List UInt8) (h : Byt w A len cap b off l) (a3 : Int) (hs : s.size ≤ 400) (hlen : len ≤ 100) :
    Calls Try.prog 4 #[.int .i64 a0, .string s, .slice A len cap, .int .i64 a3] w fun e w' => e = .returned (.bool true) ∧ Below w.heap.size w w' := by
  have CF := Lib.hid first_any
  obtain ⟨k, hk⟩ : ∃ m : Nat, a0 % 256 = (m : Int) := ⟨(a0 % 256).toNat, by omega⟩
  have hk2 : (k : Int) ≤ 255 := by omega
  have CP := Lib.hid (fun W => put_ok (A := none) (len := 0) (cap := 0) (b := 0) (off := 0) (w := W) (l := []) ⟨rfl, Nat.le_refl _, Nat.zero_le _, fun h => absurd h (by simp), fun j u hu => by simp at hu⟩ (by omega) (k : Int) s (by omega) (by omega) (by omega))
  have n0 : bits .and .i64 a0 255 = (k : Int) := (i64_low a0 8 (by omega)).trans hk
  have n1 : bits .and .i64 a3 65535 = a3 % 65536 := i64_low a3 16 (by omega)
  obtain ⟨P, hP⟩ : ∃ P : Nat, a3 % 65536 % ((s.size : Int) + 6) = (P : Int) := by
    have := Int.emod_nonneg (a3 % 65536) (show (s.size : Int) + 6 ≠ 0 by omega)
    exact ⟨(a3 % 65536 % ((s.size : Int) + 6)).toNat, by omega⟩
  have hP6 : P < s.size + 6 := by
    have := Int.emod_lt_of_pos (a3 % 65536) (show 0 < (s.size : Int) + 6 by omega)
    omega
  have HX := Lib.hid (pbs_back k hk2 s (by omega) l)
  have HC := Lib.hid (pbs_cut k hk2 s (by omega) P hP6)
  have HB := Lib.hid h
  clear hk hk2 h
  obtain ⟨i0, hi, hz0, hz1, hz2⟩ := info_parts info5
  have H0 := Lib.hid (Below.refl w.heap.size w)
  go_enter Try.func4, Try.ntmps4
  go_wp2_with (first
    | (go_at_call 7; refine (CF.out _).mono ?_; rintro _ w1 ⟨rfl, h1⟩; have H0 := Lib.hid (H0.out.trans (h1.mono H0.out.size)); clear h1)
    | (go_at_call 10; refine (CP.out _).mono ?_; rintro _ w2 ⟨v, rfl, h1, h2⟩
       obtain ⟨A2, L, cap2, b2, rfl, hL, hLc, hLm, hb2⟩ := h1.bytL
       rw [List.nil_append, pbs_length] at hL
       subst hL
       rw [List.nil_append] at hb2
       have HB2 := Lib.hid hb2
       have H0 := Lib.hid (H0.out.trans (h2.mono H0.out.size))
       have hw2 : w.heap.size ≤ w2.heap.size := H0.out.size
       clear h1 h2 hb2)
    | (at_builtin
       refine wpList_own_append (e := 5) (t := 22) (tx := 22) (z := .int .u8 0) (i := i0) (B := w2.heap.size) (v := .slice (some ⟨w2.heap.size, 0, none⟩) 0 0) (l := []) _ rfl (.tmp 48) (.tmp 49) rfl Try.underlying22 hi hz0 hz1 hz2 rfl rfl (Own.nil 5 w2.heap.size _ _) ?hB (.slice A2 (s.size + 6) cap2) rfl (pbs k s) ((HB2.out.below ((Below.refl _ _).alloc (Nat.le_refl _) _)).srcs) ?h63 ?hK
       case hB => simp
       case h63 => (rw [pbs_length]; simp; omega)
       intro v4 w4 h1 h2
       have H2 := Lib.hid (((Below.refl w2.heap.size w2).alloc (Nat.le_refl _) _).trans h2)
       have HO4 := Lib.hid h1
       clear h1 h2)
    | (at_builtin
       refine wpList_own_append (e := 5) (t := 22) (tx := 22) (z := .int .u8 0) (i := i0) (B := w2.heap.size) (v := v4) (l := [] ++ pbs k s) _ rfl (.tmp 50) (.tmp 51) rfl Try.underlying22 hi hz0 hz1 hz2 rfl rfl HO4.out ?hB2 (.slice A len cap) rfl l ((HB.out.below (H0.out.trans (H2.out.mono hw2))).srcs) ?h632 ?hK2
       case hB2 => exact H2.out.size
       case h632 => (rw [List.nil_append, pbs_length, HB.out.hlen]; omega)
       intro v5 w5 h1 h2
       have H2 := Lib.hid (H2.out.trans h2)
       rw [List.nil_append] at h1
       obtain ⟨A5, L5, cap5, b5, rfl, hL5, hLc5, hLm5, hb5⟩ := h1.bytL
       have HB5 := Lib.hid hb5
       clear h1 h2 hb5 hL5 HO4)
    | (go_at_call 8; refine (next_any HB5.out).mono ?_; rintro _ w6 ⟨rfl, h1⟩; rw [HX.out]; have H2 := Lib.hid (H2.out.trans (h1.mono H2.out.size)); clear h1 HB5)
    | (go_at_call 8; refine (next_any ((HB2.out.below (H2.out.alloc H2.out.size _)).first P (by omega))).mono ?_; rintro _ w7 ⟨rfl, h1⟩; rw [HC.out]; have hbk := ((Blk.new w6 25 #[.int .i64 (k : Int), .string s]).below h1 (by simp)).alloc (.cells #[.int .i64 0, .string ⟨#[]⟩] 25); have c0 := hbk.cell 0; have c1 := hbk.cell 1; simp only [List.getElem?_toArray, List.getElem?_cons_zero, List.getElem?_cons_succ] at c0 c1; clear hbk; have H2 := Lib.hid ((H2.out.alloc H2.out.size _).trans (h1.mono (H2.out.alloc H2.out.size _).size)); clear h1 HB2))
  go_ret
  exact ⟨rfl, (H0.out.trans (H2.out.mono hw2)).alloc (H0.out.trans (H2.out.mono hw2)).size _⟩
theorem back_big (w : World) (a0 : Int) (s : ByteArray) (A : Option Addr) (len cap : Nat) (a3 : Int) (hs : 400 < s.size ∨ 100 < len) :
    Calls Try.prog 4 #[.int .i64 a0, .string s, .slice A len cap, .int .i64 a3] w fun e w' => e = .returned (.bool true) ∧ Below w.heap.size w w' := by
  have CF := Lib.hid first_any
  have H0 := Lib.hid (Below.refl w.heap.size w)
  have hb : (decide (400 < (s.size : Int)) || decide (100 < (len : Int))) = true := by simp; omega
  go_enter Try.func4, Try.ntmps4
  go_wp2_with (go_at_call 7; refine (CF.out _).mono ?_; rintro _ w1 ⟨rfl, h1⟩; have H0 := Lib.hid (H0.out.trans (h1.mono H0.out.size)); clear h1)
  all_goals (try omega)
  all_goals (try (go_ret; exact ⟨rfl, Hid.out ‹Hid (Below w.heap.size w _)›⟩))
theorem frameBack_walk (w : World) (a0 : Int) (w0 : (Lit.int .i64 a0).wf = true) (a1 : ByteArray) (w1 : a1.size ≤ maxLen) (A2 : Option Addr) (len2 cap2 : Nat) (S2 : Sh.ok w (Sh.slice 1 (Sh.int .u8)) [.slice A2 len2 cap2]) (a3 : Int) (w3 : (Lit.int .i64 a3).wf = true) :
    Calls Try.prog 4 #[.int .i64 a0, .string a1, .slice A2 len2 cap2, .int .i64 a3] w fun e w' => e = .returned (.bool true) ∧ Below w.heap.size w w' := by
  obtain ⟨b, off, l, h⟩ := byt_open S2
  by_cases hs : 400 < a1.size ∨ 100 < len2
  · exact back_big w a0 a1 A2 len2 cap2 a3 hs
  · exact back_go w a0 a1 A2 len2 cap2 b off l h a3 (by omega) (by omega)
end Go.Proofs.Ytcopdhgmbflcoaa
