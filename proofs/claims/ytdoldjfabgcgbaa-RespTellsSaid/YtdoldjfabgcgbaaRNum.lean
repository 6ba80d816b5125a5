/- The document's Num and Text of bytes: their walks. -/
import Derived.Test.YtdoldjfabgcgbaaNum
import Derived.Test.YtdoldjfabgcgbaaApp2
namespace Go.Proofs.Ytdoldjfabgcgbaa
open Go.RowKit
set_option linter.unusedVariables false
theorem one_own (c : Int) (h0 : 0 ≤ c) (W : World) (B : Nat) (hB : B ≤ W.heap.size) : Own 5 B (W.alloc (.cells #[.int .u8 (c % 256)] 5)) (.slice (some ⟨W.heap.size, 0, none⟩) 1 1) [UInt8.ofNat c.toNat] := by
  obtain ⟨C, rfl⟩ := Int.eq_ofNat_of_zero_le h0
  refine ⟨_, 1, rfl, Nat.le_refl _, by decide, .inr ⟨W.heap.size, _, rfl, hB, heap_alloc_new _ _, rfl, ?_⟩⟩
  simp only [List.map_cons, List.map_nil, bv_ofNat, IntKind.wrap_u8', Int.toNat_natCast]
  rfl
set_option maxRecDepth 20000
set_option maxHeartbeats 1000000 in
theorem rnum_great {A : Option Addr} {len cap b off : Nat} {w : World} {l : List UInt8} (h : Byt w A len cap b off l) (hm : len ≤ 900000) (n : Nat) (hn : n < 9223372036854775808) (hn2 : 248 ≤ n) :
    Calls Try.prog 39 #[.slice A len cap, .int .i64 (n : Int)] w fun e w' => ∃ v, e = .returned v ∧ Own 5 w.heap.size w' v (l ++ hdb n :: dgs n) ∧ Below w.heap.size w w' := by
  have hlen := h.hlen
  have HL := Lib.hid (show l.length ≤ 900000 by omega)
  have h8 := sz_le 8 n (by omega)
  have h1 : 1 ≤ sz n := by rw [sz_pos (by omega)]; omega
  have hc : ¬ (n : Int) < 248 := by omega
  have HN := Lib.hid hn
  have HB := Lib.hid h
  clear h hlen hn hn2
  obtain ⟨i0, hi, hz0, hz1, hz2⟩ := info_parts info5
  go_enter Try.func39, Try.ntmps39
  go_wp2_with (
    at_builtin
    refine wpList_own_append (e := 5) (t := 26) (tx := 26) (z := .int .u8 0) (i := i0) (B := w.heap.size) (v := .slice (some ⟨w.heap.size, 0, none⟩) 0 0) (l := []) _ rfl (.tmp 7) (.tmp 8) rfl Try.underlying26 hi hz0 hz1 hz2 rfl rfl (Own.nil 5 _ _ _) ?hB1 (.slice A len cap) rfl l ((HB.out.below ((Below.refl w.heap.size w).alloc (Nat.le_refl _) _)).srcs) ?h63_1 ?hK1
    case hB1 => simp
    case h63_1 => (have := HL.out; simp; omega)
    intro v2 w2 h1 h2
    have HO2 := Lib.hid (show Own 5 w.heap.size w2 v2 l from h1)
    have H2 := Lib.hid (((Below.refl w.heap.size w).alloc (Nat.le_refl _) _).trans h2)
    clear h1 h2)
  go_loopw [1, 6] (fun a u wr => ∃ (m : Nat) (ds : List UInt8) (A : Option Addr) (L cap : Nat), dgs n = dgs m ++ ds ∧ m ≤ n ∧ a = .int .i64 (m : Int) ∧ u = .slice A L cap ∧ L + sz m = sz n ∧ ds.length = L ∧ Own 5 w2.heap.size wr u ds ∧ Below w2.heap.size w2 wr) (fun a _ _ => (intOf a).toNat)
  case atStart => exact ⟨n, [], none, 0, 0, by simp, Nat.le_refl _, rfl, rfl, by omega, rfl, Own.nil _ _ _ _, Below.refl _ _⟩
  case round =>
    obtain ⟨m, ds, A3, L3, cap3, hd, hmn, rfl, rfl, hL3, hlen3, hO, hU⟩ := hrel
    have HO3 := Lib.hid hO
    have H3 := Lib.hid hU
    have HD := Lib.hid hd
    clear hO hU hd
    have HL3 := Lib.hid hlen3
    clear hlen3
    by_cases hm0 : 0 < m
    · have hs := sz_pos hm0
      have n0 : bits .and .i64 (m : Int) 255 = (m : Int) % 256 := i64_low _ 8 (by omega)
      obtain ⟨b3, hb3⟩ := HO3.out.bytS
      have HB3 := Lib.hid hb3
      clear hb3
      go_wp2_with (
        at_builtin
        refine wpList_own_append (e := 5) (t := 26) (tx := 26) (z := .int .u8 0) (i := i0) (B := w2.heap.size) (v := .slice (some ⟨wr.heap.size, 0, none⟩) 1 1) (l := [UInt8.ofNat (m : Int).toNat]) _ rfl (.tmp 27) (.tmp 28) rfl Try.underlying26 hi hz0 hz1 hz2 rfl rfl (one_own (m : Int) (by omega) _ _ H3.out.size) ?hB2 (.slice A3 L3 cap3) rfl ds ((HB3.out.below ((Below.refl _ _).alloc (Nat.le_refl _) _)).srcs) ?h63_2 ?hK2
        case hB2 => (have := H3.out.size; simp; omega)
        case h63_2 => (have := HL3.out; simp; omega)
        intro v4 w4 h1 h2
        have HO4 := Lib.hid h1
        have H4 := Lib.hid ((H3.out.alloc H3.out.size _).trans h2)
        clear h1 h2)
      go_roundw
      case rel =>
        obtain ⟨A5, L5, cap5, b5, rfl, hL5, _, _, _⟩ := HO4.out.bytL
        have h9 := HL3.out
        simp only [List.length_append, List.length_cons, List.length_nil] at hL5
        exact ⟨m / 256, UInt8.ofNat m :: ds, A5, L5, cap5, by rw [HD.out, dgs_pos hm0]; simp, by omega, by go_num, rfl, by omega, by simp; omega, by simpa using HO4.out, H4.out⟩
      case measure => simp [intOf]; omega
    · have hz : m = 0 := by omega
      subst hz
      rw [sz_zero] at hL3
      have hds : dgs n = ds := by have := HD.out; rwa [dgs_zero, List.nil_append] at this
      have HDS := Lib.hid hds
      clear hds HD
      have e3 : L3 = sz n := by omega
      subst e3
      have hww : w.heap.size ≤ wr.heap.size := Nat.le_trans H2.out.size H3.out.size
      have H2w := Lib.hid (H2.out.trans (H3.out.mono H2.out.size))
      go_wp2_with (first
        | (at_builtin
           refine wpList_own_append2 (e := 5) (t := 26) (tx := 26) (z := .int .u8 0) (i := i0) (B := w.heap.size) (v := v2) (l := l) w2 _ rfl (.tmp 30) (.tmp 35) rfl Try.underlying26 hi hz0 hz1 hz2 rfl rfl HO2.out (H3.out.alloc H3.out.size _) ?hB3 (.slice (some ⟨wr.heap.size, 0, none⟩) 1 1) rfl [hdb n] (hdb_src n (by omega) (Blk.new _ _ _)) ?h63_3 ?hK3
           case hB3 => (simp; omega)
           case h63_3 => (have := HL.out; simp; omega)
           intro v5 w5 h1 h2 h3
           have HO5 := Lib.hid h1
           have H5 := Lib.hid ((H2w.out.alloc hww _).trans h2)
           obtain ⟨b5, hb5⟩ := ((HO3.out.below ((Below.refl _ _).alloc (Nat.le_refl _) _)).far h3).bytS
           have HB5 := Lib.hid hb5
           clear h1 h2 h3 hb5)
        | (at_builtin
           refine wpList_own_append (e := 5) (t := 26) (tx := 26) (z := .int .u8 0) (i := i0) (B := w.heap.size) (v := v5) (l := l ++ [hdb n]) _ rfl (.tmp 37) (.tmp 38) rfl Try.underlying26 hi hz0 hz1 hz2 rfl rfl HO5.out H5.out.size (.slice A3 (sz n) cap3) rfl ds HB5.out.srcs ?h63_4 ?hK4
           case h63_4 => (have := HL.out; have := HL3.out; simp; omega)
           intro v6 w6 h1 h2
           have HO6 := Lib.hid h1
           have H6 := Lib.hid (H5.out.trans h2)
           clear h1 h2))
      go_ret
      exact ⟨v6, rfl, by have := HO6.out; rw [HDS.out]; simpa using this, H6.out⟩
set_option maxHeartbeats 400000 in
theorem rnum_small {A : Option Addr} {len cap b off : Nat} {w : World} {l : List UInt8} (h : Byt w A len cap b off l) (hm : len ≤ 900000) (n : Nat) (hn : n < 248) :
    Calls Try.prog 39 #[.slice A len cap, .int .i64 (n : Int)] w fun e w' => ∃ v, e = .returned v ∧ Own 5 w.heap.size w' v (l ++ [UInt8.ofNat n]) ∧ Below w.heap.size w w' := by
  have hlen := h.hlen
  have HL := Lib.hid (show l.length ≤ 900000 by omega)
  have hc : (n : Int) < 248 := by omega
  have HB := Lib.hid h
  clear h hlen hn
  obtain ⟨i0, hi, hz0, hz1, hz2⟩ := info_parts info5
  go_enter Try.func39, Try.ntmps39
  go_wp2_with (first
    | (at_builtin
       refine wpList_own_append (e := 5) (t := 26) (tx := 26) (z := .int .u8 0) (i := i0) (B := w.heap.size) (v := .slice (some ⟨w.heap.size, 0, none⟩) 0 0) (l := []) _ rfl (.tmp 7) (.tmp 8) rfl Try.underlying26 hi hz0 hz1 hz2 rfl rfl (Own.nil 5 _ _ _) ?hB1 (.slice A len cap) rfl l ((HB.out.below ((Below.refl w.heap.size w).alloc (Nat.le_refl _) _)).srcs) ?h63_1 ?hK1
       case hB1 => simp
       case h63_1 => (have := HL.out; simp; omega)
       intro v2 w2 h1 h2
       have HO2 := Lib.hid (show Own 5 w.heap.size w2 v2 l from h1)
       have H2 := Lib.hid (((Below.refl w.heap.size w).alloc (Nat.le_refl _) _).trans h2)
       clear h1 h2)
    | (at_builtin
       refine wpList_own_append (e := 5) (t := 26) (tx := 26) (z := .int .u8 0) (i := i0) (B := w.heap.size) (v := v2) (l := l) _ rfl (.tmp 15) (.tmp 18) rfl Try.underlying26 hi hz0 hz1 hz2 rfl rfl (HO2.out.below ((Below.refl _ _).alloc (Nat.le_refl _) _)) ?hB2 (.slice (some ⟨w2.heap.size, 0, none⟩) 1 1) rfl [UInt8.ofNat n] (one_src2 (n : Int) (by omega) (by omega) (Blk.new _ _ _)) ?h63_2 ?hK2
       case hB2 => (have := H2.out.size; simp; omega)
       case h63_2 => (have := HL.out; simp; omega)
       intro v3 w3 h1 h2
       have HO3 := Lib.hid h1
       have H3 := Lib.hid ((H2.out.alloc H2.out.size _).trans h2)
       clear h1 h2))
  go_ret
  exact ⟨v3, rfl, HO3.out, H3.out⟩
set_option maxHeartbeats 400000 in
theorem rnum_neg {A : Option Addr} {len cap b off : Nat} {w : World} {l : List UInt8} (h : Byt w A len cap b off l) (hm : len ≤ 900000) (n : Int) (hn : n < 0) :
    Calls Try.prog 39 #[.slice A len cap, .int .i64 n] w fun e w' => ∃ v, e = .returned v ∧ Own 5 w.heap.size w' v l ∧ Below w.heap.size w w' := by
  have hlen := h.hlen
  have HL := Lib.hid (show l.length ≤ 900000 by omega)
  have HB := Lib.hid h
  clear h hlen
  obtain ⟨i0, hi, hz0, hz1, hz2⟩ := info_parts info5
  go_enter Try.func39, Try.ntmps39
  go_wp2_with (
       at_builtin
       refine wpList_own_append (e := 5) (t := 26) (tx := 26) (z := .int .u8 0) (i := i0) (B := w.heap.size) (v := .slice (some ⟨w.heap.size, 0, none⟩) 0 0) (l := []) _ rfl (.tmp 7) (.tmp 8) rfl Try.underlying26 hi hz0 hz1 hz2 rfl rfl (Own.nil 5 _ _ _) ?hB1 (.slice A len cap) rfl l ((HB.out.below ((Below.refl w.heap.size w).alloc (Nat.le_refl _) _)).srcs) ?h63_1 ?hK1
       case hB1 => simp
       case h63_1 => (have := HL.out; simp; omega)
       intro v2 w2 h1 h2
       have HO2 := Lib.hid (show Own 5 w.heap.size w2 v2 l from h1)
       have H2 := Lib.hid (((Below.refl w.heap.size w).alloc (Nat.le_refl _) _).trans h2)
       clear h1 h2)
  go_ret
  exact ⟨v2, rfl, HO2.out, H2.out⟩
theorem rnum_any {A : Option Addr} {len cap b off : Nat} {w : World} {l : List UInt8} (h : Byt w A len cap b off l) (hm : len ≤ 900000) (n : Int) (hn : n < 9223372036854775808) :
    Calls Try.prog 39 #[.slice A len cap, .int .i64 n] w fun e w' => ∃ v, e = .returned v ∧ Own 5 w.heap.size w' v (l ++ encz n) ∧ Below w.heap.size w w' := by
  unfold encz
  by_cases hz : n < 0
  · rw [if_pos hz, List.append_nil]; exact rnum_neg h hm n hz
  · rw [if_neg hz]
    obtain ⟨N, rfl⟩ := Int.eq_ofNat_of_zero_le (show 0 ≤ n by omega)
    rw [Int.toNat_natCast]
    unfold enc
    by_cases h2 : N < 248
    · rw [if_pos h2]; exact rnum_small h hm N h2
    · rw [if_neg h2]; exact rnum_great h hm N (by omega) (by omega)
set_option maxHeartbeats 400000 in
theorem rtext_any {A : Option Addr} {len cap b off : Nat} {w : World} {l : List UInt8} (h : Byt w A len cap b off l) (hm : len ≤ 900000) (s : ByteArray) (hs : s.size ≤ 1000000) :
    Calls Try.prog 38 #[.slice A len cap, .string s] w fun e w' => ∃ v, e = .returned v ∧ Own 5 w.heap.size w' v (l ++ enct s) ∧ Below w.heap.size w w' := by
  have CN := Lib.hid (rnum_any h hm (s.size : Int) (by omega))
  have hlen := h.hlen
  have HL := Lib.hid (show l.length ≤ 900000 by omega)
  have HE := Lib.hid (enc_length s.size (by omega))
  have HZ := Lib.hid (show encz (s.size : Int) = enc s.size by unfold encz; rw [if_neg (by omega), Int.toNat_natCast])
  clear h hlen
  obtain ⟨i0, hi, hz0, hz1, hz2⟩ := info_parts info5
  go_enter Try.func38, Try.ntmps38
  go_wp2_with (first
    | (go_at_call 39; refine CN.out.mono ?_; rintro _ w3 ⟨v3, rfl, h1, h2⟩; rw [HZ.out] at h1; have H3 := Lib.hid h1; have H4 := Lib.hid h2; clear h1 h2)
    | (at_builtin
       refine wpList_own_append (e := 5) (t := 26) (tx := 9) (z := .int .u8 0) (i := i0) (B := w.heap.size) (v := v3) (l := l ++ enc s.size) _ rfl (.tmp 8) (.tmp 9) rfl Try.underlying26 hi hz0 hz1 hz2 rfl rfl H3.out H4.out.size (.string s) rfl s.data.toList (str_src s _) ?h63 ?hK
       case h63 => (have h7 := HL.out; have h8 := HE.out; have h9 : s.data.size = s.size := rfl; simp only [List.length_append, Array.length_toList]; omega)
       intro v5 w5 h1 h2
       have H5 := Lib.hid h1
       have H6 := Lib.hid (H4.out.trans h2)
       clear h1 h2))
  go_ret
  exact ⟨v5, rfl, by have := H5.out; rwa [List.append_assoc] at this, H6.out⟩
end Go.Proofs.Ytdoldjfabgcgbaa
