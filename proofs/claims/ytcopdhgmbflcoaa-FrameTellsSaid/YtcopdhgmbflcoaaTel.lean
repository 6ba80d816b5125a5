/- FrameTells: its walk. -/
import Derived.Test.YtcopdhgmbflcoaaRnx
namespace Go.Proofs.Ytcopdhgmbflcoaa
open Go.RowKit
set_option linter.unusedVariables false
theorem fnx_shape (l : List UInt8) : ∃ (k n c : Int) (s : ByteArray), fnx l = #[.agg #[.int .i64 k, .string s], .int .i64 n, .int .i64 c] := by
  match l with
  | [] => exact ⟨_, _, _, _, rfl⟩
  | [_] => exact ⟨_, _, _, _, rfl⟩
  | [_, _] => exact ⟨_, _, _, _, rfl⟩
  | x :: y :: z :: r =>
    by_cases h : 20000 < hd3 x y z
    · exact ⟨_, _, _, _, fnx_long h⟩
    · obtain ⟨k, n, c, s, h3, _⟩ := fnx_code (r := r) h
      exact ⟨k, n, c, s, h3⟩
theorem byt_text {w : World} {A : Option Addr} {len cap b off : Nat} {l : List UInt8} (h : Byt w A len cap b off l) : (convert 22 9 (.slice A len cap)).run Try.prog w = .ok (.string ⟨l.toArray⟩) w := by
  rcases Nat.eq_zero_or_pos len with hz | hz
  · have hl := h.hlen
    subst hz
    have hl0 : l = [] := List.length_eq_zero_iff.1 hl
    subst hl0
    rw [run_convert_bytes_string w 22 9 5 _ _ cap Try.underlying22 Try.underlying5 Try.underlying9]
    cases A <;> simp [Conv.bytesToString, loadCells]
    all_goals rfl
  · rw [(h.addr hz).1]
    exact sub_bytes h.cell h.hlen
theorem nil_text (w : World) : (convert 22 9 (.slice none 0 0)).run Try.prog w = .ok (.string ⟨#[]⟩) w := by
  have h := own_text (e := 5) (B := 0) (Own.nil 5 0 w none)
  exact h
set_option maxRecDepth 100000
set_option maxHeartbeats 2000000 in
theorem tells_ok (w : World) (A : Option Addr) (len cap b off : Nat) (l : List UInt8) (h : Byt w A len cap b off l) (k : Int) (s : ByteArray) (hl : len ≤ 600) (hs : s.size ≤ 400) (hk : 0 ≤ k) (hk2 : k ≤ 255) :
    Calls Try.prog 3 #[.slice A len cap, .int .i64 k, .string s] w fun e w' => e = .returned (.bool true) ∧ Below w.heap.size w w' := by
  have CF := Lib.hid first_any
  have hlen := h.hlen
  obtain ⟨k', n, c, t, hf⟩ := fnx_shape l
  have HF := Lib.hid hf
  have CS := Lib.hid (fun W => sum_any k s W (by unfold maxLen; omega))
  have CR := Lib.hid (fun W => rsum_any k s W (by unfold maxLen; omega))
  have CN := Lib.hid (fun W => rnext_any ⟨l.toArray⟩ W (by show l.toArray.size ≤ 600; simp; omega))
  have HB := Lib.hid h
  clear h hf hlen
  have H0 := Lib.hid (Below.refl w.heap.size w)
  go_enter Try.func3, Try.ntmps3
  go_wp2_with (first
    | (go_at_call 7; refine (CF.out _).mono ?_; rintro _ w1 ⟨rfl, h1⟩; have H0 := Lib.hid (H0.out.trans (h1.mono H0.out.size)); clear h1)
    | (go_at_call 8; refine (next_any (HB.out.below H0.out)).mono ?_; rintro _ w2 ⟨rfl, h1⟩; rw [HF.out]
       have H0 := Lib.hid (H0.out.trans (h1.mono H0.out.size))
       have HT := byt_text (HB.out.below (H0.out.alloc H0.out.size (.cells #[.int .i64 k', .string t] 25)))
       clear h1)
    | (go_at_call 9; refine (CN.out _).mono ?_; rintro _ w3 ⟨rfl, h2⟩
       rw [show fnx (⟨l.toArray⟩ : ByteArray).data.toList = _ from HF.out]
       have HX3 := Lib.hid ((Blk.new w2 25 #[.int .i64 k', .string t]).below h2 (by simp))
       have H0 := Lib.hid ((H0.out.alloc H0.out.size _).trans (h2.mono (H0.out.alloc H0.out.size _).size))
       have H03 := Lib.hid (H0.out.alloc H0.out.size (.cells #[.int .i64 k', .string t] 29))
       have HX3 := Lib.hid (HX3.out.alloc (.cells #[.int .i64 k', .string t] 29))
       have HY3 := Lib.hid (Blk.new w3 29 #[.int .i64 k', .string t])
       clear h2)
    | (go_at_call 10; refine (put_ok (HB.out.below H03.out) (by omega) k s hk hk2 (by omega)).mono ?_; rintro _ w4 ⟨v1, rfl, h1, h2⟩
       have HX4 := Lib.hid (HX3.out.below h2 HX3.out.lt)
       have HY4 := Lib.hid (HY3.out.below h2 HY3.out.lt)
       have H04 := Lib.hid (H03.out.trans (h2.mono H03.out.size))
       have HO1 := Lib.hid h1
       clear h1 h2)
    | (go_at_call 11; refine (rput_ok (HB.out.below H04.out) (by omega) k s hk hk2 (by omega)).mono ?_; rintro _ w5 ⟨v2, rfl, h1, h2⟩
       have HX5 := HX4.out.below h2 HX4.out.lt
       have HY5 := HY4.out.below h2 HY4.out.lt
       have x0 := HX5.cell 0
       have x1 := HX5.cell 1
       have y0 := HY5.cell 0
       have y1 := HY5.cell 1
       simp only [List.getElem?_toArray, List.getElem?_cons_zero, List.getElem?_cons_succ] at x0 x1 y0 y1
       have HT1 := own_text (HO1.out.below h2)
       have HT2 := own_text h1
       have H05 := Lib.hid (H04.out.trans (h2.mono H04.out.size))
       clear h1 h2 HX5 HY5 HT)
    | (go_at_call 12; refine (CS.out _).mono ?_; rintro _ w6 ⟨rfl, rfl⟩)
    | (go_at_call 13; refine (CR.out _).mono ?_; rintro _ w7 ⟨rfl, rfl⟩))
  go_ret
  exact ⟨rfl, H05.out⟩
set_option maxHeartbeats 2000000 in
theorem tells_bad (w : World) (A : Option Addr) (len cap b off : Nat) (l : List UInt8) (h : Byt w A len cap b off l) (k : Int) (s : ByteArray) (hl : len ≤ 600) (hs : s.size ≤ 400) (hk : k < 0 ∨ 255 < k) :
    Calls Try.prog 3 #[.slice A len cap, .int .i64 k, .string s] w fun e w' => e = .returned (.bool true) ∧ Below w.heap.size w w' := by
  have CF := Lib.hid first_any
  have HK := Lib.hid hk
  clear hk
  have hlen := h.hlen
  obtain ⟨k', n, c, t, hf⟩ := fnx_shape l
  have HF := Lib.hid hf
  have CS := Lib.hid (fun W => sum_any k s W (by unfold maxLen; omega))
  have CR := Lib.hid (fun W => rsum_any k s W (by unfold maxLen; omega))
  have CN := Lib.hid (fun W => rnext_any ⟨l.toArray⟩ W (by show l.toArray.size ≤ 600; simp; omega))
  have HB := Lib.hid h
  clear h hf hlen
  have H0 := Lib.hid (Below.refl w.heap.size w)
  go_enter Try.func3, Try.ntmps3
  go_wp2_with (first
    | (go_at_call 7; refine (CF.out _).mono ?_; rintro _ w1 ⟨rfl, h1⟩; have H0 := Lib.hid (H0.out.trans (h1.mono H0.out.size)); clear h1)
    | (go_at_call 8; refine (next_any (HB.out.below H0.out)).mono ?_; rintro _ w2 ⟨rfl, h1⟩; rw [HF.out]
       have H0 := Lib.hid (H0.out.trans (h1.mono H0.out.size))
       have HT := byt_text (HB.out.below (H0.out.alloc H0.out.size (.cells #[.int .i64 k', .string t] 25)))
       clear h1)
    | (go_at_call 9; refine (CN.out _).mono ?_; rintro _ w3 ⟨rfl, h2⟩
       rw [show fnx (⟨l.toArray⟩ : ByteArray).data.toList = _ from HF.out]
       have HX3 := Lib.hid ((Blk.new w2 25 #[.int .i64 k', .string t]).below h2 (by simp))
       have H0 := Lib.hid ((H0.out.alloc H0.out.size _).trans (h2.mono (H0.out.alloc H0.out.size _).size))
       have H03 := Lib.hid (H0.out.alloc H0.out.size (.cells #[.int .i64 k', .string t] 29))
       have HX3 := Lib.hid (HX3.out.alloc (.cells #[.int .i64 k', .string t] 29))
       have HY3 := Lib.hid (Blk.new w3 29 #[.int .i64 k', .string t])
       clear h2)
    | (go_at_call 10; refine (put_bad _ k s HK.out).mono ?_; rintro _ w4 ⟨rfl, h2⟩
       have HX4 := Lib.hid (HX3.out.below h2 HX3.out.lt)
       have HY4 := Lib.hid (HY3.out.below h2 HY3.out.lt)
       have H04 := Lib.hid (H03.out.trans (h2.mono H03.out.size))
       clear h2)
    | (go_at_call 11; refine (rput_bad _ k s HK.out).mono ?_; rintro _ w5 ⟨rfl, h2⟩
       have HX5 := HX4.out.below h2 HX4.out.lt
       have HY5 := HY4.out.below h2 HY4.out.lt
       have x0 := HX5.cell 0
       have x1 := HX5.cell 1
       have y0 := HY5.cell 0
       have y1 := HY5.cell 1
       simp only [List.getElem?_toArray, List.getElem?_cons_zero, List.getElem?_cons_succ] at x0 x1 y0 y1
       have HT1 := nil_text w5
       have H05 := Lib.hid (H04.out.trans (h2.mono H04.out.size))
       clear h2 HX5 HY5 HT)
    | (go_at_call 12; refine (CS.out _).mono ?_; rintro _ w6 ⟨rfl, rfl⟩)
    | (go_at_call 13; refine (CR.out _).mono ?_; rintro _ w7 ⟨rfl, rfl⟩))
  go_ret
  exact ⟨rfl, H05.out⟩
set_option maxHeartbeats 2000000 in
theorem tells_big (w : World) (A : Option Addr) (len cap : Nat) (k : Int) (s : ByteArray) (hs : 600 < len ∨ 400 < s.size) :
    Calls Try.prog 3 #[.slice A len cap, .int .i64 k, .string s] w fun e w' => e = .returned (.bool true) ∧ Below w.heap.size w w' := by
  have CF := Lib.hid first_any
  have H0 := Lib.hid (Below.refl w.heap.size w)
  have hb : (decide (600 < (len : Int)) || decide (400 < (s.size : Int))) = true := by simp; omega
  go_enter Try.func3, Try.ntmps3
  go_wp2_with (go_at_call 7; refine (CF.out _).mono ?_; rintro _ w1 ⟨rfl, h1⟩; have H0 := Lib.hid (H0.out.trans (h1.mono H0.out.size)); clear h1)
  all_goals (try omega)
  all_goals (try (go_ret; exact ⟨rfl, Hid.out ‹Hid (Below w.heap.size w _)›⟩))
theorem frameTells_walk (w : World) (A0 : Option Addr) (len0 cap0 : Nat) (S0 : Sh.ok w (Sh.slice 1 (Sh.int .u8)) [.slice A0 len0 cap0]) (a1 : Int) (w1 : (Lit.int .i64 a1).wf = true) (a2 : ByteArray) (w2 : a2.size ≤ maxLen) :
    Calls Try.prog 3 #[.slice A0 len0 cap0, .int .i64 a1, .string a2] w fun e w' => e = .returned (.bool true) ∧ Below w.heap.size w w' := by
  obtain ⟨b, off, l, h⟩ := byt_open S0
  by_cases hs : 600 < len0 ∨ 400 < a2.size
  · exact tells_big w A0 len0 cap0 a1 a2 hs
  · by_cases hk : a1 < 0 ∨ 255 < a1
    · exact tells_bad w A0 len0 cap0 b off l h a1 a2 (by omega) (by omega) hk
    · exact tells_ok w A0 len0 cap0 b off l h a1 a2 (by omega) (by omega) (by omega) (by omega)
end Go.Proofs.Ytcopdhgmbflcoaa
