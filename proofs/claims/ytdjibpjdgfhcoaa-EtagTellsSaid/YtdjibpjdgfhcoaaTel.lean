/- EtagTells' walk. -/
import Derived.Test.YtdjibpjdgfhcoaaFst
import Derived.Deep.RegionHeld3
namespace Go.Proofs.Ytdjibpjdgfhcoaa
open Go.RowKit
set_option linter.unusedVariables false
set_option maxRecDepth 100000 in
set_option maxHeartbeats 1600000 in
theorem tells_in (v : Int) (a b : ByteArray) (k x : Int) (t : Bool) (w : World) (v1 : -9223372036854775808 ≤ v) (v2 : v ≤ 9223372036854775807) (x1 : -9223372036854775808 ≤ x) (x2 : x ≤ 9223372036854775807) (ha : a.size ≤ 100) (hb : b.size ≤ 100) :
    Calls Try.prog 3 #[.int .i64 v, .string a, .string b, .agg #[.int .i64 k, .int .i64 x], .bool t] w fun e w' => e = .returned (.bool true) ∧ Below w.heap.size w w' := by
  have C8 := Lib.hid (fun W => parse_any a W (by omega))
  have C9 := Lib.hid (fun W => version_any a W (by omega))
  have C10 := Lib.hid (fun W => cond_any a b W (by omega))
  have C11 := Lib.hid (fun W => rcond_any a b W (by omega))
  have C12 := Lib.hid (fun W => texts_any k x W x1 x2)
  have C13 := Lib.hid (fun W => rtexts_any k x W x1 x2)
  have C14 := Lib.hid (fun W => show_any v W v1 v2)
  have C15 := Lib.hid (fun W => tag_any v W v1 v2)
  have C16 := Lib.hid (fun W => may_any k x W)
  have C17 := Lib.hid (fun W => rmay_any k x W)
  have C18 := Lib.hid (fun W => holds_any k x t v W)
  have C19 := Lib.hid (fun W => rholds_any k x t v W)
  obtain ⟨p, q, hp⟩ : ∃ p q, prs a = (p, q) := ⟨_, _, rfl⟩
  obtain ⟨c, d, e, hc⟩ : ∃ c d e, condS a b = (c, d, e) := ⟨_, _, _, rfl⟩
  obtain ⟨y, z, hy⟩ : ∃ y z, txts k x = (y, z) := ⟨_, _, rfl⟩
  obtain ⟨s, hs⟩ : ∃ s, shw v = s := ⟨_, rfl⟩
  obtain ⟨m, hm⟩ : ∃ m, mayB k x = m := ⟨_, rfl⟩
  obtain ⟨h, hh⟩ : ∃ h, holdsB k x t v = h := ⟨_, rfl⟩
  simp only [hp] at C8 C9
  simp only [hc] at C10 C11
  simp only [hy] at C12 C13
  simp only [hs] at C14 C15
  simp only [hm] at C16 C17
  simp only [hh] at C18 C19
  clear hp hc hy hs hm hh x1 x2 v1 v2
  go_enter Try.func3, Try.ntmps3
  go_wp2_with fail
  refine (first_any _).mono ?_; rintro _ w1 ⟨rfl, hb1⟩
  have z1 : w.heap.size < w1.heap.size := by have := hb1.size; simp only [World.size_alloc] at this; omega
  have X1 := Lib.hid ((Blk.new w 23 #[.int .i64 k, .int .i64 x]).below hb1 (by simp))
  have B1 : Hid (Below w.heap.size w w1) := ((Below.refl _ _).alloc (Nat.le_refl _) _).trans (hb1.mono (by simp))
  clear hb1
  go_wp2_with fail
  refine (C8.out _).mono ?_; rintro _ w' ⟨rfl, rfl⟩
  go_wp2_with fail
  refine (C9.out _).mono ?_; rintro _ w' ⟨rfl, rfl⟩
  go_wp2_with fail
  refine (C10.out _).mono ?_; rintro _ w2 ⟨rfl, hb2⟩
  have z2 : w1.heap.size ≤ w2.heap.size := hb2.size
  have X2 := Lib.hid (X1.out.below hb2 z1)
  have B2 : Hid (Below w.heap.size w w2) := B1.out.trans (hb2.mono (by omega))
  clear hb2
  go_wp2_with fail
  refine (C11.out _).mono ?_; rintro _ w3 ⟨rfl, hb3⟩
  have z3 : w2.heap.size < w3.heap.size := by have := hb3.size; simp only [World.size_alloc] at this; omega
  have X3 := Lib.hid ((X2.out.alloc (.cells #[.int .i64 c, .int .i64 d] 23)).below hb3 (by simp; omega))
  have M3 := Lib.hid ((Blk.new w2 23 #[.int .i64 c, .int .i64 d]).below hb3 (by simp))
  have B3 : Hid (Below w.heap.size w w3) := (B2.out.alloc (by omega) _).trans (hb3.mono (by simp; omega))
  have x30 : w3.cell? ⟨w.heap.size, 0, none⟩ = some (.int .i64 k) := X3.out.cell 0
  have x31 : w3.cell? ⟨w.heap.size, 1, none⟩ = some (.int .i64 x) := X3.out.cell 1
  have zz3 : w.heap.size < w3.heap.size := by omega
  clear hb3
  go_wp2_with fail
  clear x30 x31
  refine (C12.out _).mono ?_; rintro _ w4 ⟨rfl, hb4⟩
  have z4 : w3.heap.size < w4.heap.size := by have := hb4.size; simp only [World.size_alloc] at this; omega
  have X4 := Lib.hid ((X3.out.alloc (.cells #[.int .i64 c, .int .i64 d] 23)).below hb4 (by simp; omega))
  have M4 := Lib.hid ((M3.out.alloc (.cells #[.int .i64 c, .int .i64 d] 23)).below hb4 (by simp; omega))
  have N4 := Lib.hid ((Blk.new w3 23 #[.int .i64 c, .int .i64 d]).below hb4 (by simp))
  have B4 : Hid (Below w.heap.size w w4) := (B3.out.alloc (by omega) _).trans (hb4.mono (by simp; omega))
  clear hb4
  have x40 : w4.cell? ⟨w.heap.size, 0, none⟩ = some (.int .i64 k) := X4.out.cell 0
  have x41 : w4.cell? ⟨w.heap.size, 1, none⟩ = some (.int .i64 x) := X4.out.cell 1
  go_wp2_with fail
  refine (C13.out _).mono ?_; rintro _ w5 ⟨rfl, hb5⟩
  have z5 : w4.heap.size ≤ w5.heap.size := hb5.size
  have X5 := Lib.hid (X4.out.below hb5 (by omega))
  have M5 := Lib.hid (M4.out.below hb5 (by omega))
  have N5 := Lib.hid (N4.out.below hb5 (by omega))
  have B5 : Hid (Below w.heap.size w w5) := B4.out.trans (hb5.mono (by omega))
  clear hb5
  clear x40 x41
  have x50 : w5.cell? ⟨w.heap.size, 0, none⟩ = some (.int .i64 k) := X5.out.cell 0
  have x51 : w5.cell? ⟨w.heap.size, 1, none⟩ = some (.int .i64 x) := X5.out.cell 1
  have m50 : w5.cell? ⟨w2.heap.size, 0, none⟩ = some (.int .i64 c) := M5.out.cell 0
  have m51 : w5.cell? ⟨w2.heap.size, 1, none⟩ = some (.int .i64 d) := M5.out.cell 1
  have n50 : w5.cell? ⟨w3.heap.size, 0, none⟩ = some (.int .i64 c) := N5.out.cell 0
  have n51 : w5.cell? ⟨w3.heap.size, 1, none⟩ = some (.int .i64 d) := N5.out.cell 1
  have y50 : w5.drew.cell? ⟨w.heap.size, 0, none⟩ = some (.int .i64 k) := x50
  have y51 : w5.drew.cell? ⟨w.heap.size, 1, none⟩ = some (.int .i64 x) := x51
  have o50 : w5.drew.cell? ⟨w2.heap.size, 0, none⟩ = some (.int .i64 c) := m50
  have o51 : w5.drew.cell? ⟨w2.heap.size, 1, none⟩ = some (.int .i64 d) := m51
  have q50 : w5.drew.cell? ⟨w3.heap.size, 0, none⟩ = some (.int .i64 c) := n50
  have q51 : w5.drew.cell? ⟨w3.heap.size, 1, none⟩ = some (.int .i64 d) := n51
  go_wp2_with fail
  go_region_held3 (fun w' => w'.cell? ⟨w.heap.size, 0, none⟩ = some (.int .i64 k) ∧ w'.cell? ⟨w.heap.size, 1, none⟩ = some (.int .i64 x) ∧ w'.cell? ⟨w2.heap.size, 0, none⟩ = some (.int .i64 c) ∧ w'.cell? ⟨w2.heap.size, 1, none⟩ = some (.int .i64 d) ∧ w'.cell? ⟨w3.heap.size, 0, none⟩ = some (.int .i64 c) ∧ w'.cell? ⟨w3.heap.size, 1, none⟩ = some (.int .i64 d)) (refine ⟨?_, ?_, ?_, ?_, ?_, ?_⟩ <;> assumption) (first
        | (go_at_call 14; (with_reducible refine (C14.out _).mono ?_); rintro _ w' ⟨rfl, rfl⟩)
        | (go_at_call 15; (with_reducible refine (C15.out _).mono ?_); rintro _ w' ⟨rfl, rfl⟩)
        | (go_at_call 16; (with_reducible refine (C16.out _).mono ?_); rintro _ w6 ⟨rfl, hb6⟩
           have z6 : w5.heap.size ≤ w6.heap.size := hb6.size
           have X6 := Lib.hid (X5.out.drew.below hb6 (by show _ < w5.heap.size; omega))
           have M6 := Lib.hid (M5.out.drew.below hb6 (by show _ < w5.heap.size; omega))
           have N6 := Lib.hid (N5.out.drew.below hb6 (by show _ < w5.heap.size; omega))
           have B6 : Hid (Below w.heap.size w w6) := B5.out.drew.trans (hb6.mono (by show _ ≤ w5.heap.size; omega))
           have x60 : w6.cell? ⟨w.heap.size, 0, none⟩ = some (.int .i64 k) := X6.out.cell 0
           have x61 : w6.cell? ⟨w.heap.size, 1, none⟩ = some (.int .i64 x) := X6.out.cell 1
           have m60 : w6.cell? ⟨w2.heap.size, 0, none⟩ = some (.int .i64 c) := M6.out.cell 0
           have m61 : w6.cell? ⟨w2.heap.size, 1, none⟩ = some (.int .i64 d) := M6.out.cell 1
           have n60 : w6.cell? ⟨w3.heap.size, 0, none⟩ = some (.int .i64 c) := N6.out.cell 0
           have n61 : w6.cell? ⟨w3.heap.size, 1, none⟩ = some (.int .i64 d) := N6.out.cell 1
           clear hb6)
        | (go_at_call 17; (with_reducible refine (C17.out _).mono ?_); rintro _ w7 ⟨rfl, hb7⟩
           have z7 : w6.heap.size ≤ w7.heap.size := hb7.size
           have X7 := Lib.hid (X6.out.below hb7 (by show _ < w6.heap.size; omega))
           have M7 := Lib.hid (M6.out.below hb7 (by show _ < w6.heap.size; omega))
           have N7 := Lib.hid (N6.out.below hb7 (by show _ < w6.heap.size; omega))
           have B7 : Hid (Below w.heap.size w w7) := B6.out.trans (hb7.mono (by show _ ≤ w6.heap.size; omega))
           have x70 : w7.cell? ⟨w.heap.size, 0, none⟩ = some (.int .i64 k) := X7.out.cell 0
           have x71 : w7.cell? ⟨w.heap.size, 1, none⟩ = some (.int .i64 x) := X7.out.cell 1
           have m70 : w7.cell? ⟨w2.heap.size, 0, none⟩ = some (.int .i64 c) := M7.out.cell 0
           have m71 : w7.cell? ⟨w2.heap.size, 1, none⟩ = some (.int .i64 d) := M7.out.cell 1
           have n70 : w7.cell? ⟨w3.heap.size, 0, none⟩ = some (.int .i64 c) := N7.out.cell 0
           have n71 : w7.cell? ⟨w3.heap.size, 1, none⟩ = some (.int .i64 d) := N7.out.cell 1
           clear hb7)
        | (go_at_call 18; (with_reducible refine (C18.out _).mono ?_); rintro _ w8 ⟨rfl, hb8⟩
           have z8 : w7.heap.size ≤ w8.heap.size := hb8.size
           have X8 := Lib.hid (X7.out.below hb8 (by show _ < w7.heap.size; omega))
           have M8 := Lib.hid (M7.out.below hb8 (by show _ < w7.heap.size; omega))
           have N8 := Lib.hid (N7.out.below hb8 (by show _ < w7.heap.size; omega))
           have B8 : Hid (Below w.heap.size w w8) := B7.out.trans (hb8.mono (by show _ ≤ w7.heap.size; omega))
           have x80 : w8.cell? ⟨w.heap.size, 0, none⟩ = some (.int .i64 k) := X8.out.cell 0
           have x81 : w8.cell? ⟨w.heap.size, 1, none⟩ = some (.int .i64 x) := X8.out.cell 1
           have m80 : w8.cell? ⟨w2.heap.size, 0, none⟩ = some (.int .i64 c) := M8.out.cell 0
           have m81 : w8.cell? ⟨w2.heap.size, 1, none⟩ = some (.int .i64 d) := M8.out.cell 1
           have n80 : w8.cell? ⟨w3.heap.size, 0, none⟩ = some (.int .i64 c) := N8.out.cell 0
           have n81 : w8.cell? ⟨w3.heap.size, 1, none⟩ = some (.int .i64 d) := N8.out.cell 1
           clear hb8)
        | (go_at_call 19; (with_reducible refine (C19.out _).mono ?_); rintro _ w9 ⟨rfl, hb9⟩
           have z9 : w8.heap.size ≤ w9.heap.size := hb9.size
           have X9 := Lib.hid (X8.out.below hb9 (by show _ < w8.heap.size; omega))
           have M9 := Lib.hid (M8.out.below hb9 (by show _ < w8.heap.size; omega))
           have N9 := Lib.hid (N8.out.below hb9 (by show _ < w8.heap.size; omega))
           have B9 : Hid (Below w.heap.size w w9) := B8.out.trans (hb9.mono (by show _ ≤ w8.heap.size; omega))
           have x90 : w9.cell? ⟨w.heap.size, 0, none⟩ = some (.int .i64 k) := X9.out.cell 0
           have x91 : w9.cell? ⟨w.heap.size, 1, none⟩ = some (.int .i64 x) := X9.out.cell 1
           have m90 : w9.cell? ⟨w2.heap.size, 0, none⟩ = some (.int .i64 c) := M9.out.cell 0
           have m91 : w9.cell? ⟨w2.heap.size, 1, none⟩ = some (.int .i64 d) := M9.out.cell 1
           have n90 : w9.cell? ⟨w3.heap.size, 0, none⟩ = some (.int .i64 c) := N9.out.cell 0
           have n91 : w9.cell? ⟨w3.heap.size, 1, none⟩ = some (.int .i64 d) := N9.out.cell 1
           clear hb9))
  all_goals go_wp2
  all_goals go_ret
  all_goals refine ⟨?_, B9.out⟩
  all_goals first | rfl | (simp; done)

set_option maxRecDepth 100000 in
set_option maxHeartbeats 800000 in
theorem tells_out (v : Int) (a b : ByteArray) (k x : Int) (t : Bool) (w : World) (ha : a.size ≤ 9223372036854775807) (hb : b.size ≤ 9223372036854775807) (hl : 100 < a.size ∨ (a.size ≤ 100 ∧ 100 < b.size)) :
    Calls Try.prog 3 #[.int .i64 v, .string a, .string b, .agg #[.int .i64 k, .int .i64 x], .bool t] w fun e w' => e = .returned (.bool true) ∧ Below w.heap.size w w' := by
  rcases hl with h | ⟨h, h'⟩
  all_goals
    go_enter Try.func3, Try.ntmps3
    go_wp2_with fail
    refine (first_any _).mono ?_; rintro _ w1 ⟨rfl, hb1⟩
    have z1 : w.heap.size < w1.heap.size := by have := hb1.size; simp only [World.size_alloc] at this; omega
    have B1 : Hid (Below w.heap.size w w1) := ((Below.refl _ _).alloc (Nat.le_refl _) _).trans (hb1.mono (by simp))
    clear hb1
    go_wp2_with fail
    refine (first_any _).mono ?_; rintro _ w2 ⟨rfl, hb2⟩
    have B2 : Hid (Below w.heap.size w w2) := B1.out.trans (hb2.mono (by omega))
    clear hb2
    go_wp2
    go_ret
    exact ⟨rfl, B2.out⟩
theorem wf_i64 {a : Int} (w : (Lit.int .i64 a).wf = true) : -9223372036854775808 ≤ a ∧ a ≤ 9223372036854775807 := by simpa [Lit.wf, IntKind.min, IntKind.max, IntKind.signed, IntKind.bits] using w
theorem etagTells_walk (w : World) (a0 : Int) (w0 : (Lit.int .i64 a0).wf = true) (a1 : ByteArray) (w1 : a1.size ≤ maxLen) (a2 : ByteArray) (w2 : a2.size ≤ maxLen) (a3 : Int) (w3 : (Lit.int .i64 a3).wf = true) (a4 : Int) (w4 : (Lit.int .i64 a4).wf = true) (a5 : Bool) :
    Calls Try.prog 3 #[.int .i64 a0, .string a1, .string a2, .agg #[.int .i64 a3, .int .i64 a4], .bool a5] w fun e w' => e = .returned (.bool true) ∧ Below w.heap.size w w' := by
  unfold maxLen at w1 w2
  by_cases h : a1.size ≤ 100 ∧ a2.size ≤ 100
  · exact tells_in _ _ _ _ _ _ _ (wf_i64 w0).1 (wf_i64 w0).2 (wf_i64 w4).1 (wf_i64 w4).2 h.1 h.2
  · exact tells_out _ _ _ _ _ _ _ w1 w2 (by omega)
end Go.Proofs.Ytdjibpjdgfhcoaa
