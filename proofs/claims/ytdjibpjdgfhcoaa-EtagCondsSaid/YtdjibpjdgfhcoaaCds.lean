/- EtagConds' walk. -/
import Derived.Test.YtdjibpjdgfhcoaaBac
import Derived.Deep.RegionHeld3
import Derived.Deep.RegionWith
import Derived.Laws.BitsAllLaws
import Derived.Laws.BitsLemmas
namespace Go.Proofs.Ytdjibpjdgfhcoaa
open Go.RowKit
set_option linter.unusedVariables false
theorem cond_sh {x : Int} (h : 1 ≤ x) (h2 : x ≤ 9223372036854775807) : condS (shw x) ⟨#[]⟩ = (3, x, 0) := by
  have h4 := shw_len h h2
  have e1 : ¬ (shw x).toList = [] := by
    intro e
    have : (shw x).size = 0 := by rw [size_toList, e]; rfl
    omega
  have e2 : ¬ (shw x).toList = [42] := by
    intro e
    have : (shw x).size = 1 := by rw [size_toList, e]; rfl
    omega
  have e3 : (ByteArray.mk #[]).toList = [] := by rw [ByteArray.toList_eq]
  have e4 : ¬ ([] : List UInt8) = [42] := by simp
  unfold condS
  rw [prs_shw h h2, e3]
  simp [e1, e2]
theorem kind_cases {k x : Int} (h : mayB k x = true) : (k = 0 ∧ x = 0) ∨ (k = 1 ∧ x = 0) ∨ (k = 2 ∧ x = 0) ∨ (k = 3 ∧ 1 ≤ x) := by
  unfold mayB at h
  split at h
  · next hk =>
    have hx : x = 0 := by simpa using h
    rcases hk with rfl | rfl | rfl
    · exact .inl ⟨rfl, hx⟩
    · exact .inr (.inl ⟨rfl, hx⟩)
    · exact .inr (.inr (.inl ⟨rfl, hx⟩))
  · split at h
    · next hk => exact .inr (.inr (.inr ⟨hk, by simpa using h⟩))
    · cases h
theorem xor_ne (x : Int) (h : 1 ≤ x) (h2 : x ≤ 9223372036854775807) : ∃ y : Int, bits .xor .i64 x 1 = y ∧ y ≠ x ∧ -9223372036854775808 ≤ y ∧ y ≤ 9223372036854775807 := by
  obtain ⟨n, rfl⟩ : ∃ n : Nat, x = (n : Int) := ⟨x.toNat, by omega⟩
  have hn : n < 2 ^ 63 := by omega
  have hx : n ^^^ 1 < 2 ^ 63 := Nat.xor_lt_two_pow hn (by omega)
  refine ⟨((n ^^^ 1 : Nat) : Int), ?_, ?_, by omega, by omega⟩
  · show IntKind.i64.wrap ((BitVec.ofInt 64 (n : Int) ^^^ BitVec.ofInt 64 ((1 : Nat) : Int)).toNat : Int) = _
    rw [BitVec.toNat_xor, BitVec.ofInt_natCast, BitVec.ofInt_natCast, BitVec.toNat_ofNat, BitVec.toNat_ofNat, Nat.mod_eq_of_lt (by omega), Nat.mod_eq_of_lt (by omega)]
    exact IntWalk.i64_in _ (by omega)
  · intro e
    have e' : n ^^^ 1 = n := by omega
    have : n ^^^ (n ^^^ 1) = n ^^^ n := by rw [e']
    rw [← Nat.xor_assoc, Nat.xor_self, Nat.zero_xor] at this
    exact absurd this (by decide)

set_option maxRecDepth 100000 in
set_option maxHeartbeats 1600000 in
theorem conds_no (k x v : Int) (t : Bool) (w : World) (h : mayB k x = false) (x1 : -9223372036854775808 ≤ x) (x2 : x ≤ 9223372036854775807) :
    Calls Try.prog 5 #[.agg #[.int .i64 k, .int .i64 x], .bool t, .int .i64 v] w fun e w' => e = .returned (.bool true) ∧ Below w.heap.size w w' := by
  have C12 := Lib.hid (fun W => texts_any k x W x1 x2)
  have C16 := Lib.hid (fun W => may_any k x W)
  have C18 := Lib.hid (fun W => holds_any k x t v W)
  simp only [txts_no h] at C12
  simp only [holds_no h] at C18
  simp only [h] at C16
  clear h
  go_enter Try.func5, Try.ntmps5
  go_wp2_with fail
  refine (first_any _).mono ?_; rintro _ w1 ⟨rfl, hb1⟩
  have z1 : w.heap.size < w1.heap.size := by have := hb1.size; simp only [World.size_alloc] at this; omega
  have X1 := Lib.hid ((Blk.new w 23 #[.int .i64 k, .int .i64 x]).below hb1 (by simp))
  have B1 : Hid (Below w.heap.size w w1) := ((Below.refl _ _).alloc (Nat.le_refl _) _).trans (hb1.mono (by simp))
  have x10 : w1.cell? ⟨w.heap.size, 0, none⟩ = some (.int .i64 k) := X1.out.cell 0
  have x11 : w1.cell? ⟨w.heap.size, 1, none⟩ = some (.int .i64 x) := X1.out.cell 1
  clear hb1
  go_wp2_with fail
  clear x10 x11
  refine (C12.out _).mono ?_; rintro _ w2 ⟨rfl, hb2⟩
  have z2 : w1.heap.size ≤ w2.heap.size := hb2.size
  have X2 := Lib.hid (X1.out.below hb2 z1)
  have B2 : Hid (Below w.heap.size w w2) := B1.out.trans (hb2.mono (by omega))
  have x20 : w2.cell? ⟨w.heap.size, 0, none⟩ = some (.int .i64 k) := X2.out.cell 0
  have x21 : w2.cell? ⟨w.heap.size, 1, none⟩ = some (.int .i64 x) := X2.out.cell 1
  clear hb2
  go_wp2_with fail
  clear x20 x21
  refine (C16.out _).mono ?_; rintro _ w3 ⟨rfl, hb3⟩
  have z3 : w2.heap.size ≤ w3.heap.size := hb3.size
  have X3 := Lib.hid (X2.out.below hb3 (by omega))
  have B3 : Hid (Below w.heap.size w w3) := B2.out.trans (hb3.mono (by omega))
  have x30 : w3.cell? ⟨w.heap.size, 0, none⟩ = some (.int .i64 k) := X3.out.cell 0
  have x31 : w3.cell? ⟨w.heap.size, 1, none⟩ = some (.int .i64 x) := X3.out.cell 1
  clear hb3
  go_wp2_with fail
  refine (C18.out _).mono ?_; rintro _ w4 ⟨rfl, hb4⟩
  have B4 : Hid (Below w.heap.size w w4) := B3.out.trans (hb4.mono (by omega))
  clear hb4
  go_wp2
  go_ret
  exact ⟨by first | rfl | (simp; done), B4.out⟩

set_option maxRecDepth 100000 in
set_option maxHeartbeats 1600000 in
theorem conds_plain (k x v : Int) (t : Bool) (w : World) (m n : ByteArray) (h : mayB k x = true) (x1 : -9223372036854775808 ≤ x) (x2 : x ≤ 9223372036854775807) (ht : txts k x = (m, n)) (hc : condS m n = (k, x, 0)) (hm : m.size ≤ 1000) (hk : (k != 3) = true) :
    Calls Try.prog 5 #[.agg #[.int .i64 k, .int .i64 x], .bool t, .int .i64 v] w fun e w' => e = .returned (.bool true) ∧ Below w.heap.size w w' := by
  have C12 := Lib.hid (fun W => texts_any k x W x1 x2)
  have C16 := Lib.hid (fun W => may_any k x W)
  have C10 := Lib.hid (fun W => cond_any m n W hm)
  have H0 := Lib.hid (fun W => holds_any 0 0 t v W)
  have H1 := Lib.hid (fun W => holds_any 1 0 t v W)
  have H2 := Lib.hid (fun W => holds_any 2 0 t v W)
  simp only [ht] at C12
  simp only [hc] at C10
  simp only [h] at C16
  rw [holds_0 (by decide)] at H0
  rw [holds_1 (by decide)] at H1
  rw [holds_2 (by decide)] at H2
  clear h ht hc hm x1 x2
  go_enter Try.func5, Try.ntmps5
  go_wp2_with fail
  refine (first_any _).mono ?_; rintro _ w1 ⟨rfl, hb1⟩
  have z1 : w.heap.size < w1.heap.size := by have := hb1.size; simp only [World.size_alloc] at this; omega
  have X1 := Lib.hid ((Blk.new w 23 #[.int .i64 k, .int .i64 x]).below hb1 (by simp))
  have B1 : Hid (Below w.heap.size w w1) := ((Below.refl _ _).alloc (Nat.le_refl _) _).trans (hb1.mono (by simp))
  have x10 : w1.cell? ⟨w.heap.size, 0, none⟩ = some (.int .i64 k) := X1.out.cell 0
  have x11 : w1.cell? ⟨w.heap.size, 1, none⟩ = some (.int .i64 x) := X1.out.cell 1
  clear hb1
  go_wp2_with fail
  clear x10 x11
  refine (C12.out _).mono ?_; rintro _ w2 ⟨rfl, hb2⟩
  have z2 : w1.heap.size ≤ w2.heap.size := hb2.size
  have X2 := Lib.hid (X1.out.below hb2 z1)
  have B2 : Hid (Below w.heap.size w w2) := B1.out.trans (hb2.mono (by omega))
  have x20 : w2.cell? ⟨w.heap.size, 0, none⟩ = some (.int .i64 k) := X2.out.cell 0
  have x21 : w2.cell? ⟨w.heap.size, 1, none⟩ = some (.int .i64 x) := X2.out.cell 1
  clear hb2
  go_wp2_with fail
  clear x20 x21
  refine (C16.out _).mono ?_; rintro _ w3 ⟨rfl, hb3⟩
  have z3 : w2.heap.size ≤ w3.heap.size := hb3.size
  have X3 := Lib.hid (X2.out.below hb3 (by omega))
  have B3 : Hid (Below w.heap.size w w3) := B2.out.trans (hb3.mono (by omega))
  have x30 : w3.cell? ⟨w.heap.size, 0, none⟩ = some (.int .i64 k) := X3.out.cell 0
  have x31 : w3.cell? ⟨w.heap.size, 1, none⟩ = some (.int .i64 x) := X3.out.cell 1
  clear hb3
  go_wp2_with fail
  refine (C10.out _).mono ?_; rintro _ w4 ⟨rfl, hb4⟩
  have z4 : w3.heap.size ≤ w4.heap.size := hb4.size
  have X4 := Lib.hid (X3.out.below hb4 (by omega))
  have B4 : Hid (Below w.heap.size w w4) := B3.out.trans (hb4.mono (by omega))
  have x40 : w4.cell? ⟨w.heap.size, 0, none⟩ = some (.int .i64 k) := X4.out.cell 0
  have x41 : w4.cell? ⟨w.heap.size, 1, none⟩ = some (.int .i64 x) := X4.out.cell 1
  have zz4 : w.heap.size < w4.heap.size := by omega
  clear hb4 x30 x31
  go_wp2_with fail
  refine (H0.out _).mono ?_; rintro _ w5 ⟨rfl, hb5⟩
  have z5 : w4.heap.size ≤ w5.heap.size := by have := hb5.size; simp only [World.size_alloc] at this; omega
  have X5 := Lib.hid ((X4.out.alloc (.cells #[.int .i64 k, .int .i64 x] 23)).below hb5 (by simp; omega))
  have B5 : Hid (Below w.heap.size w w5) := (B4.out.alloc (by omega) _).trans (hb5.mono (by simp; omega))
  have x50 : w5.cell? ⟨w.heap.size, 0, none⟩ = some (.int .i64 k) := X5.out.cell 0
  have x51 : w5.cell? ⟨w.heap.size, 1, none⟩ = some (.int .i64 x) := X5.out.cell 1
  clear hb5
  go_wp2_with fail
  refine (H1.out _).mono ?_; rintro _ w6 ⟨rfl, hb6⟩
  have z6 : w5.heap.size ≤ w6.heap.size := hb6.size
  have X6 := Lib.hid (X5.out.below hb6 (by omega))
  have B6 : Hid (Below w.heap.size w w6) := B5.out.trans (hb6.mono (by omega))
  have x60 : w6.cell? ⟨w.heap.size, 0, none⟩ = some (.int .i64 k) := X6.out.cell 0
  have x61 : w6.cell? ⟨w.heap.size, 1, none⟩ = some (.int .i64 x) := X6.out.cell 1
  clear hb6
  go_wp2_with fail
  refine (H2.out _).mono ?_; rintro _ w7 ⟨rfl, hb7⟩
  have z7 : w6.heap.size ≤ w7.heap.size := hb7.size
  have X7 := Lib.hid (X6.out.below hb7 (by omega))
  have B7 : Hid (Below w.heap.size w w7) := B6.out.trans (hb7.mono (by omega))
  have x70 : w7.cell? ⟨w.heap.size, 0, none⟩ = some (.int .i64 k) := X7.out.cell 0
  have x71 : w7.cell? ⟨w.heap.size, 1, none⟩ = some (.int .i64 x) := X7.out.cell 1
  clear hb7
  go_wp2
  go_ret
  exact ⟨by first | rfl | (simp; done), B7.out⟩

set_option maxRecDepth 100000 in
set_option maxHeartbeats 1600000 in
theorem conds_exact (k x v : Int) (t : Bool) (w : World) (m n : ByteArray) (h : mayB k x = true) (x1 : -9223372036854775808 ≤ x) (x2 : x ≤ 9223372036854775807) (ht : txts k x = (m, n)) (hc : condS m n = (k, x, 0)) (hm : m.size ≤ 1000) (hk : k = 3) :
    Calls Try.prog 5 #[.agg #[.int .i64 k, .int .i64 x], .bool t, .int .i64 v] w fun e w' => e = .returned (.bool true) ∧ Below w.heap.size w w' := by
  have C12 := Lib.hid (fun W => texts_any k x W x1 x2)
  have C16 := Lib.hid (fun W => may_any k x W)
  have C10 := Lib.hid (fun W => cond_any m n W hm)
  have H0 := Lib.hid (fun W => holds_any 0 0 t v W)
  have H1 := Lib.hid (fun W => holds_any 1 0 t v W)
  have H2 := Lib.hid (fun W => holds_any 2 0 t v W)
  simp only [ht] at C12
  simp only [hc] at C10
  simp only [h] at C16
  rw [holds_0 (by decide)] at H0
  rw [holds_1 (by decide)] at H1
  rw [holds_2 (by decide)] at H2
  subst hk
  have hx : 1 ≤ x := by have := kind_cases h; omega
  obtain ⟨y, hy, hne, y1, y2⟩ := xor_ne x hx x2
  have H3 := Lib.hid (fun W => holds_any 3 x t x W)
  have H4 := Lib.hid (fun W => holds_any 3 x t y W)
  have H5 := Lib.hid (fun W => holds_any 3 x false v W)
  have f4 : (y == x) = false := by simpa using hne
  simp only [holds_3 h, beq_self_eq_true, Bool.and_true] at H3
  simp only [holds_3 h, f4, Bool.and_false] at H4
  simp only [holds_3 h, Bool.false_and] at H5
  clear h ht hc hm hne f4 hx
  go_enter Try.func5, Try.ntmps5
  go_wp2_with fail
  refine (first_any _).mono ?_; rintro _ w1 ⟨rfl, hb1⟩
  have z1 : w.heap.size < w1.heap.size := by have := hb1.size; simp only [World.size_alloc] at this; omega
  have X1 := Lib.hid ((Blk.new w 23 #[.int .i64 3, .int .i64 x]).below hb1 (by simp))
  have B1 : Hid (Below w.heap.size w w1) := ((Below.refl _ _).alloc (Nat.le_refl _) _).trans (hb1.mono (by simp))
  have x10 : w1.cell? ⟨w.heap.size, 0, none⟩ = some (.int .i64 3) := X1.out.cell 0
  have x11 : w1.cell? ⟨w.heap.size, 1, none⟩ = some (.int .i64 x) := X1.out.cell 1
  clear hb1
  go_wp2_with fail
  clear x10 x11
  refine (C12.out _).mono ?_; rintro _ w2 ⟨rfl, hb2⟩
  have z2 : w1.heap.size ≤ w2.heap.size := hb2.size
  have X2 := Lib.hid (X1.out.below hb2 z1)
  have B2 : Hid (Below w.heap.size w w2) := B1.out.trans (hb2.mono (by omega))
  have x20 : w2.cell? ⟨w.heap.size, 0, none⟩ = some (.int .i64 3) := X2.out.cell 0
  have x21 : w2.cell? ⟨w.heap.size, 1, none⟩ = some (.int .i64 x) := X2.out.cell 1
  clear hb2
  go_wp2_with fail
  clear x20 x21
  refine (C16.out _).mono ?_; rintro _ w3 ⟨rfl, hb3⟩
  have z3 : w2.heap.size ≤ w3.heap.size := hb3.size
  have X3 := Lib.hid (X2.out.below hb3 (by omega))
  have B3 : Hid (Below w.heap.size w w3) := B2.out.trans (hb3.mono (by omega))
  have x30 : w3.cell? ⟨w.heap.size, 0, none⟩ = some (.int .i64 3) := X3.out.cell 0
  have x31 : w3.cell? ⟨w.heap.size, 1, none⟩ = some (.int .i64 x) := X3.out.cell 1
  clear hb3
  go_wp2_with fail
  refine (C10.out _).mono ?_; rintro _ w4 ⟨rfl, hb4⟩
  have z4 : w3.heap.size ≤ w4.heap.size := hb4.size
  have X4 := Lib.hid (X3.out.below hb4 (by omega))
  have B4 : Hid (Below w.heap.size w w4) := B3.out.trans (hb4.mono (by omega))
  have x40 : w4.cell? ⟨w.heap.size, 0, none⟩ = some (.int .i64 3) := X4.out.cell 0
  have x41 : w4.cell? ⟨w.heap.size, 1, none⟩ = some (.int .i64 x) := X4.out.cell 1
  have zz4 : w.heap.size < w4.heap.size := by omega
  clear hb4 x30 x31
  go_wp2_with fail
  refine (H0.out _).mono ?_; rintro _ w5 ⟨rfl, hb5⟩
  have z5 : w4.heap.size ≤ w5.heap.size := by have := hb5.size; simp only [World.size_alloc] at this; omega
  have X5 := Lib.hid ((X4.out.alloc (.cells #[.int .i64 3, .int .i64 x] 23)).below hb5 (by simp; omega))
  have B5 : Hid (Below w.heap.size w w5) := (B4.out.alloc (by omega) _).trans (hb5.mono (by simp; omega))
  have x50 : w5.cell? ⟨w.heap.size, 0, none⟩ = some (.int .i64 3) := X5.out.cell 0
  have x51 : w5.cell? ⟨w.heap.size, 1, none⟩ = some (.int .i64 x) := X5.out.cell 1
  clear hb5
  go_wp2_with fail
  refine (H1.out _).mono ?_; rintro _ w6 ⟨rfl, hb6⟩
  have z6 : w5.heap.size ≤ w6.heap.size := hb6.size
  have X6 := Lib.hid (X5.out.below hb6 (by omega))
  have B6 : Hid (Below w.heap.size w w6) := B5.out.trans (hb6.mono (by omega))
  have x60 : w6.cell? ⟨w.heap.size, 0, none⟩ = some (.int .i64 3) := X6.out.cell 0
  have x61 : w6.cell? ⟨w.heap.size, 1, none⟩ = some (.int .i64 x) := X6.out.cell 1
  clear hb6
  go_wp2_with fail
  refine (H2.out _).mono ?_; rintro _ w7 ⟨rfl, hb7⟩
  have z7 : w6.heap.size ≤ w7.heap.size := hb7.size
  have X7 := Lib.hid (X6.out.below hb7 (by omega))
  have B7 : Hid (Below w.heap.size w w7) := B6.out.trans (hb7.mono (by omega))
  have x70 : w7.cell? ⟨w.heap.size, 0, none⟩ = some (.int .i64 3) := X7.out.cell 0
  have x71 : w7.cell? ⟨w.heap.size, 1, none⟩ = some (.int .i64 x) := X7.out.cell 1
  clear hb7
  go_wp2_with fail
  refine (H3.out _).mono ?_; rintro _ w8 ⟨rfl, hb8⟩
  have z8 : w7.heap.size ≤ w8.heap.size := hb8.size
  have X8 := Lib.hid (X7.out.below hb8 (by omega))
  have B8 : Hid (Below w.heap.size w w8) := B7.out.trans (hb8.mono (by omega))
  have x80 : w8.cell? ⟨w.heap.size, 0, none⟩ = some (.int .i64 3) := X8.out.cell 0
  have x81 : w8.cell? ⟨w.heap.size, 1, none⟩ = some (.int .i64 x) := X8.out.cell 1
  clear hb8
  go_wp2_with fail
  refine (H4.out _).mono ?_; rintro _ w9 ⟨rfl, hb9⟩
  have z9 : w8.heap.size ≤ w9.heap.size := hb9.size
  have X9 := Lib.hid (X8.out.below hb9 (by omega))
  have B9 : Hid (Below w.heap.size w w9) := B8.out.trans (hb9.mono (by omega))
  have x90 : w9.cell? ⟨w.heap.size, 0, none⟩ = some (.int .i64 3) := X9.out.cell 0
  have x91 : w9.cell? ⟨w.heap.size, 1, none⟩ = some (.int .i64 x) := X9.out.cell 1
  clear hb9
  go_wp2_with fail
  refine (H5.out _).mono ?_; rintro _ w10 ⟨rfl, hb10⟩
  have z10 : w9.heap.size ≤ w10.heap.size := hb10.size
  have X10 := Lib.hid (X9.out.below hb10 (by omega))
  have B10 : Hid (Below w.heap.size w w10) := B9.out.trans (hb10.mono (by omega))
  have x100 : w10.cell? ⟨w.heap.size, 0, none⟩ = some (.int .i64 3) := X10.out.cell 0
  have x101 : w10.cell? ⟨w.heap.size, 1, none⟩ = some (.int .i64 x) := X10.out.cell 1
  clear hb10
  go_wp2
  go_ret
  exact ⟨by first | rfl | (simp; done), B10.out⟩

theorem etagConds_walk (w : World) (a0 : Int) (w0 : (Lit.int .i64 a0).wf = true) (a1 : Int) (w1 : (Lit.int .i64 a1).wf = true) (a2 : Bool) (a3 : Int) (w3 : (Lit.int .i64 a3).wf = true) :
    Calls Try.prog 5 #[.agg #[.int .i64 a0, .int .i64 a1], .bool a2, .int .i64 a3] w fun e w' => e = .returned (.bool true) ∧ Below w.heap.size w w' := by
  obtain ⟨x1, x2⟩ := wf_i64' w1
  cases h : mayB a0 a1
  · exact conds_no _ _ _ _ _ h x1 x2
  rcases kind_cases h with ⟨rfl, rfl⟩ | ⟨rfl, rfl⟩ | ⟨rfl, rfl⟩ | ⟨rfl, hx⟩
  · exact conds_plain 0 0 a3 a2 w ⟨#[]⟩ ⟨#[]⟩ h x1 x2 (txts_0 h) (by decide +kernel) (by decide) (by decide)
  · exact conds_plain 1 0 a3 a2 w ⟨#[]⟩ ⟨#[42]⟩ h x1 x2 (txts_1 h) (by decide +kernel) (by decide) (by decide)
  · exact conds_plain 2 0 a3 a2 w ⟨#[42]⟩ ⟨#[]⟩ h x1 x2 (txts_2 h) (by decide +kernel) (by decide) (by decide)
  · exact conds_exact 3 a1 a3 a2 w (shw a1) ⟨#[]⟩ h x1 x2 (txts_3 h) (cond_sh hx x2) (by have := shw_size a1 x2; omega) rfl
end Go.Proofs.Ytdjibpjdgfhcoaa
