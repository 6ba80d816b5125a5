/- PackPuts: its walk. -/
import Derived.Test.YtcaimaeikedhoaaOne
import Derived.Deep.RegionHeld
namespace Go.Proofs.Ytcaimaeikedhoaa
open Go.RowKit
set_option linter.unusedVariables false
set_option maxRecDepth 20000
theorem sev_src {W : World} {g : Nat} (h : Blk W g 5 #[.int .u8 7, .int .u8 7, .int .u8 7]) :
    Src Try.prog 1 22 (.slice (some ⟨g, 0, none⟩) 3 3) ([7, 7, 7] : List UInt8).length (([7, 7, 7] : List UInt8).map bv) W := by
  refine Src.ofSlice W Try.underlying22 _ 3 3 _ rfl (fun j u hu => ?_) (fun u hu => by
    obtain ⟨x, _, rfl⟩ := List.mem_map.1 hu
    rfl)
  rw [add_plain, Nat.zero_add, h.cell j]
  simpa [bv] using hu
set_option maxHeartbeats 1000000 in
theorem puts_go (w : World) (A : Option Addr) (len cap b off : Nat) (l : List UInt8) (h : Byt w A len cap b off l) (hlen : len ≤ 100) (n : Int) (hn : n < 9223372036854775808) (s : ByteArray) (hs : s.size ≤ 400) :
    Calls Try.prog 3 #[.slice A len cap, .int .i64 n, .string s] w fun e w' => e = .returned (.bool true) ∧ Below w.heap.size w w' := by
  have CF := Lib.hid first_any
  have hl := h.hlen
  have HB := Lib.hid h
  have HLL := Lib.hid hl
  have HN := Lib.hid hn
  clear h hl hn
  obtain ⟨i0, hi, hz0, hz1, hz2⟩ := info_parts info5
  have H0 := Lib.hid (Below.refl w.heap.size w)
  go_enter Try.func3, Try.ntmps3
  go_wp2_with (first
    | (go_at_call 6; refine (CF.out _).mono ?_; rintro _ w1 ⟨rfl, h1⟩; have H0 := Lib.hid (H0.out.trans (h1.mono H0.out.size)); clear h1)
    | (at_builtin
       refine wpList_own_append (e := 5) (t := 22) (tx := 22) (z := .int .u8 0) (i := i0) (B := w.heap.size) (v := .slice (some ⟨w1.heap.size, 0, none⟩) 0 0) (l := []) _ rfl (.tmp 21) (.tmp 22) rfl Try.underlying22 hi hz0 hz1 hz2 rfl rfl (Own.nil 5 _ _ _) ?hB1 (.slice A len cap) rfl l ((HB.out.below (H0.out.alloc H0.out.size _)).srcs) ?h63_1 ?hK1
       case hB1 => (have := H0.out.size; simp; omega)
       case h63_1 => (rw [HLL.out]; simp; omega)
       intro v2 w2 h1 h2
       have HO2 := Lib.hid (show Own 5 w.heap.size w2 v2 l from h1)
       have H2 := Lib.hid ((H0.out.alloc H0.out.size _).trans h2)
       clear h1 h2)
    | (at_builtin
       refine wpList_own_append (e := 5) (t := 22) (tx := 22) (z := .int .u8 0) (i := i0) (B := w.heap.size) (v := v2) (l := l) _ rfl (.tmp 23) (.tmp 24) rfl Try.underlying22 hi hz0 hz1 hz2 rfl rfl (HO2.out.below ((Below.refl _ _).alloc (Nat.le_refl _) _)) ?hB2 (.slice (some ⟨w2.heap.size, 0, none⟩) 3 3) rfl [7, 7, 7] (sev_src (Blk.new _ _ _)) ?h63_2 ?hK2
       case hB2 => (have := H2.out.size; simp; omega)
       case h63_2 => (rw [HLL.out]; simp; omega)
       intro v3 w3 h1 h2
       have H3 := Lib.hid ((H2.out.alloc H2.out.size _).trans h2)
       obtain ⟨A3, L3, cap3, b3, rfl, hL3, hLc3, hLm3, hb3⟩ := h1.bytL
       rw [List.length_append, HLL.out] at hL3
       obtain ⟨rfl, hb3s⟩ := hb3.addr (by simp at hL3; omega)
       have hL3 : L3 = len + 3 := hL3
       subst hL3
       have HB3 := Lib.hid hb3
       have hq1 : (len : Int) ≤ (cap3 : Int) := by omega
       have hq2 : (len : Int) + 3 ≤ (cap3 : Int) := by omega
       clear h1 h2 hb3)
    | (go_at_call 7
       refine (num_any ((HB3.out.first len (by omega))) (by omega) n HN.out).mono ?_
       rintro _ w4 ⟨v4, rfl, h1, h2⟩
       have HO4 := Lib.hid h1
       have HB4 := Lib.hid (HB3.out.below h2)
       have H4 := Lib.hid (H3.out.trans (h2.mono H3.out.size))
       clear h1 h2)
    | (go_at_call 8
       refine (text_any ((HB4.out.first len (by omega))) (by omega) s (by omega)).mono ?_
       rintro _ w5 ⟨v5, rfl, h1, h2⟩
       have HO5 := Lib.hid h1
       have HB5 := Lib.hid (HB4.out.below h2)
       have HP5 := Lib.hid (HO4.out.below h2)
       have H5 := Lib.hid (H4.out.trans (h2.mono H4.out.size))
       clear h1 h2)
    | fail)
  have i3 : wrap64 ((len : Int) + 3) = (len : Int) + 3 := IntWalk.wrap64_in _ (by omega)
  have i1 : IntKind.i64.wrap ((len : Int) + 3) = (len : Int) + 3 := (IntWalk.i64_left _).trans i3
  have i2 : (0 : Int) ≤ (len : Int) + 3 := by omega
  have et : List.take len (l ++ [7, 7, 7]) = l := List.take_left' HLL.out
  have hc1 : ∀ W, Below w5.heap.size w5 W → (convert 22 9 v4).run Try.prog W = .ok (.string ⟨(l ++ encz n).toArray⟩) W := fun W hW => own_text (by have := HP5.out.below hW; rwa [et] at this)
  have hc2 : ∀ W, Below w5.heap.size w5 W → (convert 22 9 v5).run Try.prog W = .ok (.string ⟨(l ++ enct s).toArray⟩) W := fun W hW => own_text (by have := HO5.out.below hW; rwa [et] at this)
  have hc3 : ∀ W, Below w5.heap.size w5 W → (convert 22 9 (.slice A len cap)).run Try.prog W = .ok (.string ⟨l.toArray⟩) W := fun W hW => byt_text ((HB.out.below (H5.out.trans (hW.mono H5.out.size))))
  have hc4 : ∀ W, Below w5.heap.size w5 W → (convert 22 9 (.slice (some ⟨b3, 0, none⟩) ((len : Int) + 3).toNat cap3)).run Try.prog W = .ok (.string ⟨(l ++ [7, 7, 7]).toArray⟩) W := fun W hW => by have := byt_text (HB5.out.below hW); rwa [show ((len : Int) + 3).toNat = len + 3 by omega]
  have HC1 := Lib.hid hc1
  have HC2 := Lib.hid hc2
  have HC3 := Lib.hid hc3
  have HC4 := Lib.hid hc4
  have k1 := hc1 w5.drew (Below.refl _ _).drew
  have k2 := hc2 w5.drew (Below.refl _ _).drew
  have k3 := hc3 w5.drew (Below.refl _ _).drew
  have k4 := hc4 w5.drew (Below.refl _ _).drew
  have kadd : ∀ W, (Op.stringOp .add ⟨l.toArray⟩ ⟨#[7, 7, 7]⟩).run Try.prog W = .ok (.string ⟨(l ++ [7, 7, 7]).toArray⟩) W := fun W => run_string_add_lists (P := Try.prog) W l [7, 7, 7] (by rw [HLL.out]; omega) (by simp)
  have kz1 : ¬ 9223372036854775807 < l.length + 3 := by rw [HLL.out]; omega
  have kz2 : ¬ 9223372036854775804 < l.length := by rw [HLL.out]; omega
  have HLN := Lib.hid hlen
  clear hc1 hc2 hc3 hc4 et hlen
  go_region_held (fun w' => (convert 22 9 v4).run Try.prog w' = .ok (.string ⟨(l ++ encz n).toArray⟩) w' ∧ (convert 22 9 v5).run Try.prog w' = .ok (.string ⟨(l ++ enct s).toArray⟩) w' ∧ (convert 22 9 (.slice A len cap)).run Try.prog w' = .ok (.string ⟨l.toArray⟩) w' ∧ (convert 22 9 (.slice (some ⟨b3, 0, none⟩) ((len : Int) + 3).toNat cap3)).run Try.prog w' = .ok (.string ⟨(l ++ [7, 7, 7]).toArray⟩) w') (refine ⟨?_, ?_, ?_, ?_⟩ <;> assumption) (first
  | (go_at_call 9
     (with_reducible refine (rnum_any (HB.out.below H5.out.drew) (Nat.le_trans HLN.out (by omega)) n HN.out).mono ?_)
     rintro _ w6 ⟨v6, rfl, h1, h2⟩
     have h25 : Below w5.heap.size w5 w6 := (Below.refl w5.heap.size w5).drew.trans h2
     have H6 := Lib.hid (H5.out.trans (h25.mono H5.out.size))
     have H56 := Lib.hid h25
     have q1 := HC1.out w6 h25
     have q2 := HC2.out w6 h25
     have q3 := HC3.out w6 h25
     have q4 := HC4.out w6 h25
     have q5 := own_text h1
     clear h1 h2 h25)
  | (go_at_call 10
     (with_reducible refine (rtext_any (HB.out.below H6.out) (Nat.le_trans HLN.out (by omega)) s (by omega)).mono ?_)
     rintro _ w7 ⟨v7, rfl, h1, h2⟩
     have h25 : Below w5.heap.size w5 w7 := H56.out.trans (h2.mono H56.out.size)
     have H7 := Lib.hid (H5.out.trans (h25.mono H5.out.size))
     have p1 := HC1.out w7 h25
     have p2 := HC2.out w7 h25
     have p3 := HC3.out w7 h25
     have p4 := HC4.out w7 h25
     have p5 := own_text h1
     clear h1 h2 h25))
  all_goals (
    go_wp2
    go_ret
    exact ⟨rfl, H7.out⟩)
theorem puts_big (w : World) (A : Option Addr) (len cap : Nat) (n : Int) (s : ByteArray) (hs : 100 < len ∨ 400 < s.size) :
    Calls Try.prog 3 #[.slice A len cap, .int .i64 n, .string s] w fun e w' => e = .returned (.bool true) ∧ Below w.heap.size w w' := by
  have CF := Lib.hid first_any
  have H0 := Lib.hid (Below.refl w.heap.size w)
  have hb : (decide (100 < (len : Int)) || decide (400 < (s.size : Int))) = true := by simp; omega
  go_enter Try.func3, Try.ntmps3
  go_wp2_with (go_at_call 6; refine (CF.out _).mono ?_; rintro _ w1 ⟨rfl, h1⟩; have H0 := Lib.hid (H0.out.trans (h1.mono H0.out.size)); clear h1)
  all_goals (try omega)
  all_goals (try (go_ret; exact ⟨rfl, Hid.out ‹Hid (Below w.heap.size w _)›⟩))
theorem packPuts_walk (w : World) (A0 : Option Addr) (len0 cap0 : Nat) (S0 : Sh.ok w (Sh.slice 1 (Sh.int .u8)) [.slice A0 len0 cap0]) (a1 : Int) (w1 : (Lit.int .i64 a1).wf = true) (a2 : ByteArray) (w2 : a2.size ≤ maxLen) :
    Calls Try.prog 3 #[.slice A0 len0 cap0, .int .i64 a1, .string a2] w fun e w' => e = .returned (.bool true) ∧ Below w.heap.size w w' := by
  obtain ⟨b, off, l, h⟩ := byt_open S0
  have hx : a1 ≤ 9223372036854775807 := by
    have := w1
    simp [Lit.wf, IntKind.min, IntKind.max, IntKind.signed, IntKind.bits] at this
    exact this.2
  by_cases hs : 100 < len0 ∨ 400 < a2.size
  · exact puts_big w A0 len0 cap0 a1 a2 hs
  · exact puts_go w A0 len0 cap0 b off l h (by omega) a1 (by omega) a2 (by omega)
end Go.Proofs.Ytcaimaeikedhoaa
