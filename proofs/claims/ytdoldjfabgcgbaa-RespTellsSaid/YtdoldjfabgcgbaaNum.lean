/- pack.size, pack.number, pack.Num, pack.Text: their walks, and the bytes of a number. -/
import Derived.Test.YtdoldjfabgcgbaaByt
import Derived.Test.YtdoldjfabgcgbaaShelf
namespace Go.Proofs.Ytdoldjfabgcgbaa
open Go.RowKit
set_option linter.unusedVariables false
def dgs (n : Nat) : List UInt8 := if h : n = 0 then [] else dgs (n / 256) ++ [UInt8.ofNat n]
termination_by n
decreasing_by omega
theorem dgs_zero : dgs 0 = [] := by unfold dgs; simp
theorem dgs_pos {n : Nat} (h : 0 < n) : dgs n = dgs (n / 256) ++ [UInt8.ofNat n] := by
  rw [dgs, dif_neg (by omega)]
def sz (n : Nat) : Nat := (dgs n).length
theorem sz_zero : sz 0 = 0 := by simp [sz, dgs_zero]
theorem sz_pos {n : Nat} (h : 0 < n) : sz n = sz (n / 256) + 1 := by simp [sz, dgs_pos h]
theorem dgs_get : ∀ (n j : Nat), j < sz n → (dgs n)[j]? = some (UInt8.ofNat (n / 256 ^ (sz n - 1 - j))) := by
  intro n
  induction n using Nat.strongRecOn with
  | _ n ih =>
    intro j hj
    rcases Nat.eq_zero_or_pos n with rfl | hp
    · rw [sz_zero] at hj; omega
    · have hs := sz_pos hp
      rw [dgs_pos hp]
      by_cases hlt : j < sz (n / 256)
      · rw [List.getElem?_append_left hlt, ih (n / 256) (by omega) j hlt, hs]
        congr 2
        rw [Nat.div_div_eq_div_mul, show sz (n / 256) + 1 - 1 - j = (sz (n / 256) - 1 - j) + 1 by omega, Nat.pow_succ, Nat.mul_comm]
      · have : j = sz (n / 256) := by omega
        subst this
        rw [List.getElem?_append_right (show (dgs (n / 256)).length ≤ sz (n / 256) from Nat.le_refl _), hs]
        simp [sz]
theorem sz_le : ∀ (k n : Nat), n < 256 ^ k → sz n ≤ k := by
  intro k
  induction k with
  | zero => intro n h; have : n = 0 := by simpa using h
            subst this; rw [sz_zero]; omega
  | succ k ih =>
    intro n h
    rcases Nat.eq_zero_or_pos n with rfl | hp
    · rw [sz_zero]; omega
    · rw [sz_pos hp]
      have := ih (n / 256) (by rw [Nat.div_lt_iff_lt_mul (by omega)]; rwa [Nat.pow_succ] at h)
      omega
def hdb (n : Nat) : UInt8 := UInt8.ofNat (247 + sz n)
def enc (n : Nat) : List UInt8 := if n < 248 then [UInt8.ofNat n] else hdb n :: dgs n
theorem size_any (n : Nat) (hn : n < 9223372036854775808) (w : World) :
    Calls Try.prog 51 #[.int .i64 (n : Int)] w fun e w' => e = .returned (.int .i64 (sz n)) ∧ w = w' := by
  go_enter Try.func51, Try.ntmps51
  go_wp2
  go_loop [0, 3] (fun a k => ∃ m j : Nat, j + sz m = sz n ∧ j ≤ 8 ∧ m ≤ n ∧ a = .int .i64 (m : Int) ∧ k = .int .i64 (j : Int)) (fun a _ => (intOf a).toNat)
  case atStart => exact ⟨n, 0, by omega, by omega, Nat.le_refl _, rfl, rfl⟩
  case round =>
    obtain ⟨m, j, hj, hj8, hmn, rfl, rfl⟩ := hrel
    have h8 : sz n ≤ 8 := sz_le 8 n (by omega)
    by_cases hp : 0 < m
    · have hs := sz_pos hp
      go_wp2
      all_goals go_round
      case rel => exact ⟨m / 256, j + 1, by omega, by omega, by omega, by go_num, by go_num⟩
      case measure => simp [intOf]; omega
    · have h0 : m = 0 := by omega
      subst h0
      rw [sz_zero] at hj
      go_wp2
      go_ret
      exact ⟨by rw [show j = sz n by omega]; rfl, rfl⟩
theorem one_src (c : Int) (h0 : 0 ≤ c) {W : World} {g : Nat} (h : Blk W g 5 #[.int .u8 (c % 256)]) :
    Src Try.prog 1 26 (.slice (some ⟨g, 0, none⟩) 1 1) ([UInt8.ofNat c.toNat] : List UInt8).length (([UInt8.ofNat c.toNat] : List UInt8).map bv) W := by
  obtain ⟨C, rfl⟩ := Int.eq_ofNat_of_zero_le h0
  refine Src.ofSlice W Try.underlying26 _ 1 1 _ rfl (fun j u hu => ?_) (fun u hu => by
    obtain ⟨x, _, rfl⟩ := List.mem_map.1 hu
    rfl)
  rw [add_plain, Nat.zero_add, h.cell j]
  simp only [List.map_cons, List.map_nil, bv_ofNat, Int.toNat_natCast, IntKind.wrap_u8'] at hu
  simpa using hu
theorem one_src2 (c : Int) (h0 : 0 ≤ c) (h1 : c < 256) {W : World} {g : Nat} (h : Blk W g 5 #[.int .u8 c]) :
    Src Try.prog 1 26 (.slice (some ⟨g, 0, none⟩) 1 1) ([UInt8.ofNat c.toNat] : List UInt8).length (([UInt8.ofNat c.toNat] : List UInt8).map bv) W :=
  one_src c h0 (by rw [Int.emod_eq_of_lt h0 h1]; exact h)
set_option maxHeartbeats 1000000 in
theorem number_small (n : Nat) (hn : n < 248) {B : Nat} {w : World} {v : Value} {l : List UInt8} (h : Own 5 B w v l) (hB : B ≤ w.heap.size) (hl : l.length ≤ 1000000) :
    Calls Try.prog 48 #[v, .int .i64 (n : Int)] w fun e w' => ∃ v', e = .returned v' ∧ Own 5 B w' v' (l ++ [UInt8.ofNat n]) ∧ Below B w w' := by
  have HO := Lib.hid h
  have HL := Lib.hid hl
  have hc : (n : Int) < 248 := by omega
  clear h hl hn
  obtain ⟨i0, hi, hz0, hz1, hz2⟩ := info_parts info5
  go_enter Try.func48, Try.ntmps48
  go_wp2_with (
      at_builtin
      refine wpList_own_append (e := 5) (t := 26) (tx := 26) (z := .int .u8 0) (i := i0) (B := B) (v := v) (l := l) _ rfl (.tmp 9) (.tmp 12) rfl Try.underlying26 hi hz0 hz1 hz2 rfl rfl (HO.out.below ((Below.refl _ _).alloc (Nat.le_refl _) _)) ?hB1 (.slice (some ⟨w.heap.size, 0, none⟩) 1 1) rfl [UInt8.ofNat n] (one_src2 (n : Int) (by omega) (by omega) (Blk.new _ _ _)) ?h63_1 ?hK1
      case hB1 => (simp <;> omega)
      case h63_1 => (have := HL.out; simp; omega)
      intro v2 w2 h1 h2
      have HO2 := Lib.hid h1
      have H2 := Lib.hid (((Below.refl B w).alloc hB _).trans h2)
      clear h1 h2)
  go_ret
  exact ⟨v2, rfl, HO2.out, H2.out⟩
theorem hdb_src (n : Nat) (h : sz n ≤ 8) {W : World} {g : Nat} (hb : Blk W g 5 #[.int .u8 (247 + (sz n : Int))]) :
    Src Try.prog 1 26 (.slice (some ⟨g, 0, none⟩) 1 1) ([hdb n] : List UInt8).length (([hdb n] : List UInt8).map bv) W :=
  one_src2 (247 + (sz n : Int)) (by omega) (by omega) hb
theorem dgs_take (n j Q : Nat) (h : j + Q + 1 = sz n) : (dgs n).take (j + 1) = (dgs n).take j ++ [UInt8.ofNat ((n : Int) / 2 ^ (8 * Q)).toNat] := by
  have hj : j < (dgs n).length := by show j < sz n; omega
  have hg := dgs_get n j (by omega)
  rw [List.getElem?_eq_getElem hj] at hg
  rw [List.take_succ_eq_append_getElem hj, Option.some.inj hg]
  congr 3
  rw [show sz n - 1 - j = Q by omega]
  have : ((n : Int) / 2 ^ (8 * Q)) = ((n / 256 ^ Q : Nat) : Int) := by
    rw [Int.natCast_ediv, Int.natCast_pow, show ((256 : Nat) : Int) = 2 ^ 8 by rfl, ← Int.pow_mul]
  rw [this, Int.toNat_natCast]
set_option maxHeartbeats 1000000 in
theorem number_great (n : Nat) (hn : n < 9223372036854775808) (hn2 : 248 ≤ n) {B : Nat} {w : World} {v : Value} {l : List UInt8} (h : Own 5 B w v l) (hB : B ≤ w.heap.size) (hl : l.length ≤ 1000000) :
    Calls Try.prog 48 #[v, .int .i64 (n : Int)] w fun e w' => ∃ v', e = .returned v' ∧ Own 5 B w' v' (l ++ hdb n :: dgs n) ∧ Below B w w' := by
  have HO := Lib.hid h
  have HL := Lib.hid hl
  have CS := Lib.hid (size_any n hn)
  have h8 := sz_le 8 n (by omega)
  have h1 : 1 ≤ sz n := by rw [sz_pos (by omega)]; omega
  have hc : ¬ (n : Int) < 248 := by omega
  have HN := Lib.hid hn
  clear h hl hn hn2
  obtain ⟨i0, hi, hz0, hz1, hz2⟩ := info_parts info5
  go_enter Try.func48, Try.ntmps48
  go_wp2_with (first
    | (go_at_call 51; refine (CS.out _).mono ?_; rintro _ w9 ⟨rfl, rfl⟩)
    | (at_builtin
       refine wpList_own_append (e := 5) (t := 26) (tx := 26) (z := .int .u8 0) (i := i0) (B := B) (v := v) (l := l) _ rfl (.tmp 16) (.tmp 20) rfl Try.underlying26 hi hz0 hz1 hz2 rfl rfl (HO.out.below ((Below.refl _ _).alloc (Nat.le_refl _) _)) ?hB1 (.slice (some ⟨w.heap.size, 0, none⟩) 1 1) rfl [hdb n] (hdb_src n (by omega) (Blk.new _ _ _)) ?h63_1 ?hK1
       case hB1 => (simp <;> omega)
       case h63_1 => (have := HL.out; simp; omega)
       intro v2 w2 h1 h2
       have HO2 := Lib.hid h1
       have H2 := Lib.hid (((Below.refl B w).alloc hB _).trans h2)
       clear h1 h2))
  have hw2 : B ≤ w2.heap.size := Nat.le_trans hB H2.out.size
  go_loopw [0, 6] (fun a i wr => ∃ (j : Nat) (q : Int), (j : Int) + q + 1 = sz n ∧ -1 ≤ q ∧ i = .int .i64 q ∧ Own 5 B wr a (l ++ hdb n :: (dgs n).take j) ∧ Below B w wr) (fun _ i _ => (intOf i + 1).toNat)
  case atStart => exact ⟨0, (sz n : Int) - 1, by omega, by omega, rfl, by simpa using HO2.out, H2.out⟩
  case round =>
    obtain ⟨j, q, hj, hq, rfl, hO, hU⟩ := hrel
    have HO3 := Lib.hid hO
    have H3 := Lib.hid hU
    clear hO hU
    by_cases hq0 : 0 ≤ q
    · obtain ⟨Q, rfl⟩ := Int.eq_ofNat_of_zero_le hq0
      have hlt : ((dgs n).take j).length ≤ 8 := by rw [List.length_take]; show min j (sz n) ≤ 8; omega
      have HLT := Lib.hid hlt
      have hp : (0 : Int) ≤ (n : Int) / 2 ^ (8 * Q) := Int.ediv_nonneg (by omega) (Int.pow_nonneg (by omega))
      clear hlt
      go_wp2_with (
        at_builtin
        refine wpList_own_append (e := 5) (t := 26) (tx := 26) (z := .int .u8 0) (i := i0) (B := B) (v := u0) (l := l ++ hdb n :: (dgs n).take j) _ rfl (.tmp 28) (.tmp 34) rfl Try.underlying26 hi hz0 hz1 hz2 rfl rfl (HO3.out.below ((Below.refl _ _).alloc (Nat.le_refl _) _)) ?hB2 (.slice (some ⟨wr.heap.size, 0, none⟩) 1 1) rfl [UInt8.ofNat ((n : Int) / 2 ^ (8 * Q)).toNat] (one_src ((n : Int) / 2 ^ (8 * Q)) hp (Blk.new _ _ _)) ?h63_2 ?hK2
        case hB2 => (have := H3.out.size; simp; omega)
        case h63_2 => (have := HL.out; have := HLT.out; simp; omega)
        intro v3 w3 h1 h2
        have HO4 := Lib.hid h1
        have H4 := Lib.hid ((H3.out.alloc (Nat.le_trans hB H3.out.size) _).trans h2)
        clear h1 h2)
      go_roundw
      case rel => exact ⟨j + 1, (Q : Int) - 1, by omega, by omega, by go_num, by rw [dgs_take n j Q (by omega)]; simpa using HO4.out, H4.out⟩
      case measure => simp [intOf]
    · have hq1 : q = -1 := by omega
      subst hq1
      go_wp2
      go_ret
      exact ⟨u0, rfl, by have := HO3.out; rwa [List.take_of_length_le (show (dgs n).length ≤ j by show sz n ≤ j; omega)] at this, H3.out⟩
theorem number_any (n : Nat) (hn : n < 9223372036854775808) {B : Nat} {w : World} {v : Value} {l : List UInt8} (h : Own 5 B w v l) (hB : B ≤ w.heap.size) (hl : l.length ≤ 1000000) :
    Calls Try.prog 48 #[v, .int .i64 (n : Int)] w fun e w' => ∃ v', e = .returned v' ∧ Own 5 B w' v' (l ++ enc n) ∧ Below B w w' := by
  unfold enc
  by_cases h2 : n < 248
  · rw [if_pos h2]; exact number_small n h2 h hB hl
  · rw [if_neg h2]; exact number_great n hn (by omega) h hB hl
def encz (n : Int) : List UInt8 := if n < 0 then [] else enc n.toNat
theorem enc_length (n : Nat) (hn : n < 9223372036854775808) : (enc n).length ≤ 9 := by
  unfold enc
  split
  · simp
  · have := sz_le 8 n (by omega)
    show (dgs n).length + 1 ≤ 9
    show sz n + 1 ≤ 9
    omega
set_option maxHeartbeats 400000 in
theorem num_any {A : Option Addr} {len cap b off : Nat} {w : World} {l : List UInt8} (h : Byt w A len cap b off l) (hm : len ≤ 1000000) (n : Int) (hn : n < 9223372036854775808) :
    Calls Try.prog 34 #[.slice A len cap, .int .i64 n] w fun e w' => ∃ v, e = .returned v ∧ Own 5 w.heap.size w' v (l ++ encz n) ∧ Below w.heap.size w w' := by
  have CL := Lib.hid (clone_any h (by omega))
  have hlen := h.hlen
  have HL := Lib.hid (show l.length ≤ 1000000 by omega)
  clear h hlen
  by_cases hz : n < 0
  · have e : encz n = [] := by simp [encz, hz]
    rw [e]
    go_enter Try.func34, Try.ntmps34
    go_wp2_with (go_at_call 47; refine CL.out.mono ?_; rintro _ w2 ⟨v, rfl, h1, h2⟩; have H1 := Lib.hid h1; have H2 := Lib.hid h2; clear h1 h2)
    go_ret
    exact ⟨v, rfl, by simpa using H1.out, H2.out⟩
  · obtain ⟨N, rfl⟩ := Int.eq_ofNat_of_zero_le (show 0 ≤ n by omega)
    have e : encz (N : Int) = enc N := by unfold encz; rw [if_neg hz, Int.toNat_natCast]
    rw [e]
    have hN : N < 9223372036854775808 := by omega
    have HN := Lib.hid hN
    clear hn hN
    go_enter Try.func34, Try.ntmps34
    go_wp2_with (first
      | (go_at_call 47; refine CL.out.mono ?_; rintro _ w2 ⟨v, rfl, h1, h2⟩; have H1 := Lib.hid h1; have H2 := Lib.hid h2; clear h1 h2)
      | (go_at_call 48; refine (number_any N HN.out H1.out H2.out.size HL.out).mono ?_; rintro _ w3 ⟨v3, rfl, h1, h2⟩; have H3 := Lib.hid h1; have H4 := Lib.hid (H2.out.trans h2); clear h1 h2))
    go_ret
    exact ⟨v3, rfl, H3.out, H4.out⟩
def enct (s : ByteArray) : List UInt8 := enc s.size ++ s.data.toList
set_option maxHeartbeats 400000 in
theorem text_any {A : Option Addr} {len cap b off : Nat} {w : World} {l : List UInt8} (h : Byt w A len cap b off l) (hm : len ≤ 900000) (s : ByteArray) (hs : s.size ≤ 1000000) :
    Calls Try.prog 35 #[.slice A len cap, .string s] w fun e w' => ∃ v, e = .returned v ∧ Own 5 w.heap.size w' v (l ++ enct s) ∧ Below w.heap.size w w' := by
  have CL := Lib.hid (clone_any h (by omega))
  have hlen := h.hlen
  have HL := Lib.hid (show l.length ≤ 900000 by omega)
  have HE := Lib.hid (enc_length s.size (by omega))
  clear h hlen
  obtain ⟨i0, hi, hz0, hz1, hz2⟩ := info_parts info5
  go_enter Try.func35, Try.ntmps35
  go_wp2_with (first
    | (go_at_call 47; refine CL.out.mono ?_; rintro _ w2 ⟨v, rfl, h1, h2⟩; have H1 := Lib.hid h1; have H2 := Lib.hid h2; clear h1 h2)
    | (go_at_call 48; refine (number_any s.size (by omega) H1.out H2.out.size (by have := HL.out; omega)).mono ?_; rintro _ w3 ⟨v3, rfl, h1, h2⟩; have H3 := Lib.hid h1; have H4 := Lib.hid (H2.out.trans h2); clear h1 h2)
    | (at_builtin
       refine wpList_own_append (e := 5) (t := 26) (tx := 9) (z := .int .u8 0) (i := i0) (B := w.heap.size) (v := v3) (l := l ++ enc s.size) _ rfl (.tmp 9) (.tmp 10) rfl Try.underlying26 hi hz0 hz1 hz2 rfl rfl H3.out H4.out.size (.string s) rfl s.data.toList (str_src s _) ?h63 ?hK
       case h63 => (have h7 := HL.out; have h8 := HE.out; have h9 : s.data.size = s.size := rfl; simp only [List.length_append, Array.length_toList]; omega)
       intro v5 w5 h1 h2
       have H5 := Lib.hid h1
       have H6 := Lib.hid (H4.out.trans h2)
       clear h1 h2))
  go_ret
  exact ⟨v5, rfl, by have := H5.out; rwa [List.append_assoc] at this, H6.out⟩
end Go.Proofs.Ytdoldjfabgcgbaa
