/- FrameTurned: its walk. -/
import Derived.Test.YtcopdhgmbflcoaaTrn
namespace Go.Proofs.Ytcopdhgmbflcoaa
open Go.RowKit
set_option linter.unusedVariables false
theorem Own.bytS {e : TypeId} {B : Nat} {w : World} {A : Option Addr} {L cap : Nat} {l : List UInt8} (h : Own e B w (.slice A L cap) l) : ∃ b, Byt w A L cap b 0 l := by
  obtain ⟨A', cap', b, hv, hb⟩ := h.byt
  simp at hv
  obtain ⟨rfl, rfl, rfl⟩ := hv
  exact ⟨b, hb⟩
theorem pbs_turned (k : Int) (h0 : 0 ≤ k) (h1 : k ≤ 255) (s : ByteArray) (hs : s.size ≤ 20000) (P : Nat) (hP : 3 ≤ P) (hP2 : P < s.size + 6) (u : UInt8) (hu : (pbs k s)[P]? ≠ some u) : fnx ((pbs k s).set P u) = #[emp, .int .i64 0, .int .i64 1] := by
  rw [pbs_pbl k h0 h1 s] at hu ⊢
  exact pbl_turned _ _ (by rw [Array.length_toList]; exact hs) P hP (by rw [Array.length_toList]; exact hP2) _ hu
theorem xor_u8 (x : UInt8) (b : Int) (h0 : 0 ≤ b) (h1 : b ≤ 255) : bits .xor .u8 (x.toNat : Int) b = ((x ^^^ UInt8.ofNat b.toNat).toNat : Int) := by
  have hx := x.toNat_lt
  rw [u8_xor _ _ (by omega) (by omega) h0 (by omega), UInt8.toNat_xor, UInt8.toNat_ofNat', Int.toNat_natCast, Nat.mod_eq_of_lt (show b.toNat < 2 ^ 8 by omega)]
theorem xor_ne (x : UInt8) (b : Int) (h0 : 0 ≤ b) (h1 : b ≤ 255) (hb : b ≠ 0) : x ≠ x ^^^ UInt8.ofNat b.toNat := by
  intro h
  have h2 : x ^^^ x = x ^^^ (x ^^^ UInt8.ofNat b.toNat) := by rw [← h]
  rw [← UInt8.xor_assoc, UInt8.xor_self, UInt8.zero_xor] at h2
  have h3 := congrArg UInt8.toNat h2
  rw [UInt8.toNat_ofNat'] at h3
  have : (0 : UInt8).toNat = 0 := rfl
  omega
set_option maxHeartbeats 1000000 in
theorem turned_go (w : World) (a0 : Int) (s : ByteArray) (a2 a3 : Int) (y0 : 0 ≤ a3) (y1 : a3 ≤ 255) (y2 : a3 ≠ 0) (hs : s.size ≤ 400) :
    Calls Try.prog 5 #[.int .i64 a0, .string s, .int .i64 a2, .int .u8 a3] w fun e w' => e = .returned (.bool true) ∧ Below w.heap.size w w' := by
  have CF := Lib.hid first_any
  obtain ⟨k, hk⟩ : ∃ m : Nat, a0 % 256 = (m : Int) := ⟨(a0 % 256).toNat, by omega⟩
  have hk2 : (k : Int) ≤ 255 := by omega
  have CP := Lib.hid (fun W => put_ok (A := none) (len := 0) (cap := 0) (b := 0) (off := 0) (w := W) (l := []) ⟨rfl, Nat.le_refl _, Nat.zero_le _, fun h => absurd h (by simp), fun j u hu => by simp at hu⟩ (by omega) (k : Int) s (by omega) (by omega) (by omega))
  have n0 : bits .and .i64 a0 255 = (k : Int) := (i64_low a0 8 (by omega)).trans hk
  have n1 : bits .and .i64 a2 65535 = a2 % 65536 := i64_low a2 16 (by omega)
  obtain ⟨P, hP⟩ : ∃ P : Nat, 3 + a2 % 65536 % ((s.size : Int) + 6 - 3) = (P : Int) := by
    have := Int.emod_nonneg (a2 % 65536) (show (s.size : Int) + 6 - 3 ≠ 0 by omega)
    exact ⟨(3 + a2 % 65536 % ((s.size : Int) + 6 - 3)).toNat, by omega⟩
  have hP3 : 3 ≤ P := by
    have := Int.emod_nonneg (a2 % 65536) (show (s.size : Int) + 6 - 3 ≠ 0 by omega)
    omega
  have hP6 : P < s.size + 6 := by
    have := Int.emod_lt_of_pos (a2 % 65536) (show 0 < (s.size : Int) + 6 - 3 by omega)
    omega
  have np : wrap64 (3 + a2 % 65536 % ((s.size : Int) + 6 - 3)) = (P : Int) := (IntWalk.wrap64_in _ (by omega)).trans hP
  clear hP
  have yb : (a3 == 0) = false := by simpa using y2
  have HY := Lib.hid y2
  clear y2
  have HK := Lib.hid (And.intro hk hk2)
  clear hk hk2
  obtain ⟨i0, hi, hz0, hz1, hz2⟩ := info_parts info5
  have H0 := Lib.hid (Below.refl w.heap.size w)
  go_enter Try.func5, Try.ntmps5
  go_wp2_with (first
    | (go_at_call 7; refine (CF.out _).mono ?_; rintro _ w1 ⟨rfl, h1⟩; have H0 := Lib.hid (H0.out.trans (h1.mono H0.out.size)); clear h1)
    | (go_at_call 10; refine (CP.out _).mono ?_; rintro _ w2 ⟨v, rfl, h1, h2⟩
       obtain ⟨A2, L, cap2, b2, rfl, hL, hLc, hLm, hb2⟩ := h1.bytL
       rw [List.nil_append, pbs_length] at hL
       subst hL
       have HB2 := Lib.hid hb2
       have H0 := Lib.hid (H0.out.trans (h2.mono H0.out.size))
       clear h1 h2 hb2)
    | (at_builtin; rw [np]
       refine wpList_own_append (e := 5) (t := 22) (tx := 22) (z := .int .u8 0) (i := i0) (B := w.heap.size) (v := .slice (some ⟨w2.heap.size, 0, none⟩) 0 0) (l := []) _ rfl (.tmp 50) (.tmp 51) rfl Try.underlying22 hi hz0 hz1 hz2 rfl rfl (Own.nil 5 w.heap.size _ _) ?hB (.slice A2 (s.size + 6) cap2) rfl (pbs k s) ((HB2.out.below ((Below.refl _ _).alloc (Nat.le_refl _) _)).srcs) ?h63 ?hK
       case hB => (have := H0.out.size; simp; omega)
       case h63 => (rw [pbs_length]; simp; omega)
       intro v4 w4 h1 h2
       have H0 := Lib.hid ((H0.out.alloc H0.out.size _).trans h2)
       obtain ⟨A4, L4, cap4, b4, rfl, hL4, hLc4, hLm4, hb4⟩ := h1.bytL
       rw [List.nil_append, pbs_length] at hL4
       subst hL4
       rw [List.nil_append] at h1
       have hPl : P < (pbs k s).length := by rw [pbs_length]; exact hP6
       obtain ⟨g, rfl, -, -, -, hg, c4, f4, hO⟩ := h1.set P hPl ((pbs k s)[P]'hPl ^^^ UInt8.ofNat a3.toNat)
       have nx := xor_u8 ((pbs k s)[P]'hPl) a3 y0 y1
       obtain ⟨b5, hb5⟩ := hO.bytS
       have HB5 := Lib.hid hb5
       have hnx : (pbs k s)[P]? ≠ some ((pbs k s)[P]'hPl ^^^ UInt8.ofNat a3.toNat) := by
         rw [List.getElem?_eq_getElem hPl]
         intro h
         exact xor_ne _ a3 y0 y1 HY.out (Option.some.inj h)
       have hfx : fnx ((pbs k s).set P ((pbs k s)[P]'hPl ^^^ UInt8.ofNat a3.toNat)) = #[.agg #[.int .i64 0, .string ⟨#[]⟩], .int .i64 0, .int .i64 1] := by
         exact pbs_turned _ (by omega) HK.out.2 s (by omega) P hP3 hP6 _ hnx
       have HF5 := Lib.hid hfx
       generalize (pbs k s)[P]'hPl ^^^ UInt8.ofNat a3.toNat = u at *
       generalize (pbs k s)[P]'hPl = x at *
       have H0 := Lib.hid (H0.out.setCell (p := ⟨g, P, none⟩) hg (.int .u8 (u.toNat : Int)))
       clear h1 h2 hb5 hnx hfx hO hb4)
    | (go_at_call 8; refine (next_any HB5.out).mono ?_; rintro _ w6 ⟨rfl, h1⟩; rw [HF5.out]; have H0 := Lib.hid (H0.out.trans (h1.mono H0.out.size)); clear h1))
  go_ret
  exact ⟨rfl, H0.out.alloc H0.out.size _⟩
theorem turned_zero (w : World) (a0 : Int) (s : ByteArray) (a2 : Int) (hs : s.size ≤ 400) :
    Calls Try.prog 5 #[.int .i64 a0, .string s, .int .i64 a2, .int .u8 0] w fun e w' => e = .returned (.bool true) ∧ Below w.heap.size w w' := by
  have CF := Lib.hid first_any
  obtain ⟨k, hk⟩ : ∃ m : Nat, a0 % 256 = (m : Int) := ⟨(a0 % 256).toNat, by omega⟩
  have hk2 : (k : Int) ≤ 255 := by omega
  have CP := Lib.hid (fun W => put_ok (A := none) (len := 0) (cap := 0) (b := 0) (off := 0) (w := W) (l := []) ⟨rfl, Nat.le_refl _, Nat.zero_le _, fun h => absurd h (by simp), fun j u hu => by simp at hu⟩ (by omega) (k : Int) s (by omega) (by omega) (by omega))
  have n0 : bits .and .i64 a0 255 = (k : Int) := (i64_low a0 8 (by omega)).trans hk
  clear hk hk2
  have H0 := Lib.hid (Below.refl w.heap.size w)
  go_enter Try.func5, Try.ntmps5
  go_wp2_with (first
    | (go_at_call 7; refine (CF.out _).mono ?_; rintro _ w1 ⟨rfl, h1⟩; have H0 := Lib.hid (H0.out.trans (h1.mono H0.out.size)); clear h1)
    | (go_at_call 10; refine (CP.out _).mono ?_; rintro _ w2 ⟨v, rfl, h1, h2⟩
       obtain ⟨A2, L, cap2, b2, rfl, hL, hLc, hLm, hb2⟩ := h1.bytL
       rw [List.nil_append, pbs_length] at hL
       subst hL
       have H0 := Lib.hid (H0.out.trans (h2.mono H0.out.size))
       clear h1 h2 hb2))
  go_ret
  exact ⟨rfl, Hid.out ‹Hid (Below w.heap.size w _)›⟩
theorem turned_big (w : World) (a0 : Int) (s : ByteArray) (a2 a3 : Int) (hs : 400 < s.size) :
    Calls Try.prog 5 #[.int .i64 a0, .string s, .int .i64 a2, .int .u8 a3] w fun e w' => e = .returned (.bool true) ∧ Below w.heap.size w w' := by
  have CF := Lib.hid first_any
  have H0 := Lib.hid (Below.refl w.heap.size w)
  go_enter Try.func5, Try.ntmps5
  go_wp2_with (go_at_call 7; refine (CF.out _).mono ?_; rintro _ w1 ⟨rfl, h1⟩; have H0 := Lib.hid (H0.out.trans (h1.mono H0.out.size)); clear h1)
  all_goals (try omega)
  go_ret
  exact ⟨rfl, Hid.out ‹Hid (Below w.heap.size w _)›⟩
theorem frameTurned_walk (w : World) (a0 : Int) (w0 : (Lit.int .i64 a0).wf = true) (a1 : ByteArray) (w1 : a1.size ≤ maxLen) (a2 : Int) (w2 : (Lit.int .i64 a2).wf = true) (a3 : Int) (w3 : (Lit.int .u8 a3).wf = true) :
    Calls Try.prog 5 #[.int .i64 a0, .string a1, .int .i64 a2, .int .u8 a3] w fun e w' => e = .returned (.bool true) ∧ Below w.heap.size w w' := by
  have hx : 0 ≤ a3 ∧ a3 ≤ 255 := by simpa [Lit.wf, IntKind.min, IntKind.max, IntKind.signed, IntKind.bits] using w3
  by_cases hs : a1.size ≤ 400
  · by_cases h0 : a3 = 0
    · subst h0; exact turned_zero w a0 a1 a2 hs
    · exact turned_go w a0 a1 a2 a3 hx.1 hx.2 h0 hs
  · exact turned_big w a0 a1 a2 a3 (by omega)
end Go.Proofs.Ytcopdhgmbflcoaa
