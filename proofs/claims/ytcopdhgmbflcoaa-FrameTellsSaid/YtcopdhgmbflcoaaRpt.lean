/- The document's Put of a frame: its walk. -/
import Derived.Test.YtcopdhgmbflcoaaRsm
namespace Go.Proofs.Ytcopdhgmbflcoaa
open Go.RowKit
set_option linter.unusedVariables false
theorem hd4_src2 (n : Nat) (k : Int) (hk : 0 ≤ k) (hk2 : k ≤ 255) (hn : n ≤ 20000) {W : World} {g : Nat} (h : Blk W g 5 #[.int .u8 ((n : Int) / 65536), .int .u8 ((n : Int) / 256 % 256), .int .u8 ((n : Int) % 256), .int .u8 k]) :
    Src Try.prog 1 22 (.slice (some ⟨g, 0, none⟩) 4 4) (hd4 n k).length ((hd4 n k).map bv) W := by
  refine hd4_src n k hk ?_
  simp only [IntKind.wrap_u8']
  rw [show (n : Int) / 65536 % 256 = (n : Int) / 65536 by omega, show k % 256 = k by omega]
  exact h
set_option maxHeartbeats 1000000 in
theorem rput_ok {A : Option Addr} {len cap b off : Nat} {w : World} {l : List UInt8} (h : Byt w A len cap b off l) (hm : len ≤ 1000000) (k : Int) (s : ByteArray) (hk : 0 ≤ k) (hk2 : k ≤ 255) (hs : s.size ≤ 20000) :
    Calls Try.prog 11 #[.slice A len cap, .agg #[.int .i64 k, .string s]] w fun e w' => ∃ v, e = .returned (.tuple #[v, .int .i64 0]) ∧ Own 5 w.heap.size w' v (l ++ pbs k s) ∧ Below w.heap.size w w' := by
  have CS := Lib.hid (fun W => rsum_any k s W (by unfold maxLen; omega))
  have n1 : bits .and .i64 ((s.size : Int) / 256) 255 = (s.size : Int) / 256 % 256 := i64_low _ 8 (by omega)
  have n2 : bits .and .i64 (s.size : Int) 255 = (s.size : Int) % 256 := i64_low _ 8 (by omega)
  have n3 : bits .and .i64 (fsm k s.data.toList) 255 = fsm k s.data.toList % 256 := i64_low _ 8 (by omega)
  have F0 := Lib.hid (And.intro (fsm_nonneg k s.data.toList) (fsm_lt k s.data.toList))
  have HLen := h.hlen
  have HB := Lib.hid h
  have HL := Lib.hid HLen
  clear h HLen
  obtain ⟨i0, hi, hz0, hz1, hz2⟩ := info_parts info5
  go_enter Try.func11, Try.ntmps11
  go_wp2_with (first
    | (go_at_call 13; refine (CS.out _).mono ?_; rintro _ w9 ⟨rfl, rfl⟩)
    | (at_builtin
       refine wpList_own_append (e := 5) (t := 22) (tx := 22) (z := .int .u8 0) (i := i0) (B := w.heap.size + 1) (v := .slice (some ⟨w.heap.size + 1, 0, none⟩) 0 0) (l := []) _ rfl (.tmp 22) (.tmp 23) rfl Try.underlying22 hi hz0 hz1 hz2 rfl rfl (Own.nil 5 _ _ _) ?hB1 (.slice A len cap) rfl l ((HB.out.below (((Below.refl w.heap.size w).alloc (Nat.le_refl _) _).alloc (by simp) _)).srcs) ?h63_1 ?hK1
       case hB1 => (simp <;> omega)
       case h63_1 => (rw [HL.out]; simp; omega)
       intro v2 w2 h1 h2
       have HO2 := Lib.hid h1
       have H2 := Lib.hid ((((Below.refl w.heap.size w).alloc (Nat.le_refl _) _).alloc (by simp) _).trans (h2.mono (by omega)))
       have HX2 := Lib.hid (((Blk.new w 29 #[.int .i64 k, .string s]).alloc _).below h2 (Nat.lt_succ_self _))
       have L2 : w.heap.size + 1 ≤ w2.heap.size := HX2.out.lt
       have c0 := HX2.out.cell 0
       have c1 := HX2.out.cell 1
       simp only [List.getElem?_toArray, List.getElem?_cons_zero, List.getElem?_cons_succ] at c0 c1
       clear h1 h2)
    | (at_builtin
       refine wpList_own_append (e := 5) (t := 22) (tx := 22) (z := .int .u8 0) (i := i0) (B := w.heap.size + 1) (v := v2) (l := [] ++ l) _ rfl (.tmp 25) (.tmp 39) rfl Try.underlying22 hi hz0 hz1 hz2 rfl rfl (HO2.out.below ((Below.refl _ _).alloc (Nat.le_refl _) _)) ?hB2 (.slice (some ⟨w2.heap.size, 0, none⟩) 4 4) rfl (hd4 s.size k) (hd4_src2 _ _ hk hk2 hs (Blk.new _ _ _)) ?h63_2 ?hK2
       case hB2 => (simp <;> omega)
       case h63_2 => (rw [List.nil_append, HL.out]; simp [hd4]; omega)
       intro v3 w3 h1 h2
       have HO3 := Lib.hid h1
       have H3 := Lib.hid ((H2.out.alloc H2.out.size _).trans (h2.mono (by omega)))
       have HX3 := Lib.hid ((HX2.out.alloc _).below h2 (Nat.lt_succ_self _))
       have L3 : w.heap.size + 1 ≤ w3.heap.size := HX3.out.lt
       have c0 := HX3.out.cell 0
       have c1 := HX3.out.cell 1
       simp only [List.getElem?_toArray, List.getElem?_cons_zero, List.getElem?_cons_succ] at c0 c1
       clear h1 h2 HO2)
    | (at_builtin
       refine wpList_own_append (e := 5) (t := 22) (tx := 9) (z := .int .u8 0) (i := i0) (B := w.heap.size + 1) (v := v3) (l := [] ++ l ++ hd4 s.size k) _ rfl (.tmp 41) (.tmp 43) rfl Try.underlying22 hi hz0 hz1 hz2 rfl rfl HO3.out L3 (.string s) rfl s.data.toList (str_src s _) ?h63_3 ?hK3
       case h63_3 => (rw [List.nil_append, List.length_append, HL.out, Array.length_toList]; simp [hd4]; omega)
       intro v4 w4 h1 h2
       have HO4 := Lib.hid h1
       have H4 := Lib.hid (H3.out.trans (h2.mono (by omega)))
       have HX4 := Lib.hid (HX3.out.below h2 (Nat.lt_succ_self _))
       have L4 : w.heap.size + 1 ≤ w4.heap.size := HX4.out.lt
       have c0 := HX4.out.cell 0
       have c1 := HX4.out.cell 1
       simp only [List.getElem?_toArray, List.getElem?_cons_zero, List.getElem?_cons_succ] at c0 c1
       clear h1 h2 HO3)
    | (at_builtin
       refine wpList_own_append (e := 5) (t := 22) (tx := 22) (z := .int .u8 0) (i := i0) (B := w.heap.size + 1) (v := v4) (l := [] ++ l ++ hd4 s.size k ++ s.data.toList) _ rfl (.tmp 50) (.tmp 57) rfl Try.underlying22 hi hz0 hz1 hz2 rfl rfl (HO4.out.below ((Below.refl _ _).alloc (Nat.le_refl _) _)) ?hB4 (.slice (some ⟨w4.heap.size, 0, none⟩) 2 2) rfl (sm2 (fsm k s.data.toList)) (sm2_src _ F0.out.1 (Blk.new _ _ _)) ?h63_4 ?hK4
       case hB4 => (simp <;> omega)
       case h63_4 => (rw [List.nil_append, List.length_append, List.length_append, HL.out, Array.length_toList]; simp [hd4, sm2]; omega)
       intro v5 w5 h1 h2
       have HO5 := Lib.hid h1
       have H5 := Lib.hid ((H4.out.alloc H4.out.size _).trans (h2.mono (by omega)))
       clear h1 h2 HO4)
    | fail)
  go_ret2
  refine ⟨v5, rfl, ?_, H5.out⟩
  have h := HO5.out.mono (Nat.le_succ w.heap.size)
  simpa [pbs] using h
theorem rput_bad {A : Option Addr} {len cap : Nat} (w : World) (k : Int) (s : ByteArray) (hk : k < 0 ∨ 255 < k) :
    Calls Try.prog 11 #[.slice A len cap, .agg #[.int .i64 k, .string s]] w fun e w' => e = .returned (.tuple #[.slice none 0 0, .int .i64 12]) ∧ Below w.heap.size w w' := by
  have HH : decide (k < 0) || decide (255 < k) := by simpa using hk
  go_enter Try.func11, Try.ntmps11
  go_wp2
  all_goals (try omega)
  all_goals (try (go_ret2; exact ⟨rfl, (Below.refl _ _).alloc (Nat.le_refl _) _⟩))
theorem rput_long {A : Option Addr} {len cap : Nat} (w : World) (k : Int) (s : ByteArray) (hk : 0 ≤ k) (hk2 : k ≤ 255) (hs : 20000 < s.size) :
    Calls Try.prog 11 #[.slice A len cap, .agg #[.int .i64 k, .string s]] w fun e w' => e = .returned (.tuple #[.slice none 0 0, .int .i64 2]) ∧ Below w.heap.size w w' := by
  go_enter Try.func11, Try.ntmps11
  go_wp2_with fail
  all_goals (try omega)
  all_goals (try (go_ret2; exact ⟨rfl, (Below.refl _ _).alloc (Nat.le_refl _) _⟩))
end Go.Proofs.Ytcopdhgmbflcoaa
