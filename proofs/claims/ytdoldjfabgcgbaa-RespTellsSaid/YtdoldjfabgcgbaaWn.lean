/- A reader's calls: nothing but the reader's own block is turned. -/
import Derived.Test.YtdoldjfabgcgbaaRx
import Derived.OwnWalk
import Derived.Deep.RegionWith
namespace Go.Proofs.Ytdoldjfabgcgbaa
open Go.RowKit
set_option linter.unusedVariables false
set_option linter.unusedSimpArgs false
set_option maxRecDepth 20000
theorem by_below {w w' : World} {row : Option Nat} (h : Below w.heap.size w w') : w.grownBy w' row := ⟨h.os, h.tape, h.output, h.size, fun j hj _ => h.block j hj⟩
theorem by_then {a b c : World} {g : Nat} (h : a.grownBy b (some g)) (hb : Below b.heap.size b c) : a.grownBy c (some g) :=
  ⟨hb.os.trans h.os, hb.tape.trans h.tape, hb.output.trans h.output, Nat.le_trans h.size hb.size, fun j hj hne => (hb.block j (Nat.lt_of_lt_of_le hj h.size)).trans (h.block j hj hne)⟩
theorem by_trans {a b c : World} {g : Nat} (h : a.grownBy b (some g)) (k : b.grownBy c (some g)) : a.grownBy c (some g) :=
  ⟨k.os.trans h.os, k.tape.trans h.tape, k.output.trans h.output, Nat.le_trans h.size k.size, fun j hj hne => (k.block j (Nat.lt_of_lt_of_le hj h.size) hne).trans (h.block j hj hne)⟩
theorem wnum_ok {w : World} {g : Nat} {s : ByteArray} {P n k : Nat} (h : Rd w g s P 0) (hs : s.size ≤ 1000000) (hP : P ≤ s.size) (hr : rt (s.data.toList.drop P) = (n, k, 0)) :
    Calls Try.prog 21 #[.pointer (some ⟨g, 0, none⟩)] w fun r w' => r = .returned (.int .i64 (n : Int)) ∧ Rd w' g s ((P : Int) + (k : Int)) 0 ∧ w.grownBy w' (some g) := by
  have hk := (rt_ok hr).2.2.1
  have hlen : (s.data.toList.drop P).length = s.size - P := by rw [List.length_drop, Array.length_toList]; rfl
  have hk2 : (P : Int) + (k : Int) ≤ 1000000 := by omega
  have CN := Lib.hid (rdn_any h hs hP)
  have HE := Lib.hid (show rta (s.data.toList.drop P) = #[.int .i64 (n : Int), .int .i64 (k : Int), .int .i64 0] by unfold rta; rw [hr])
  have HR := Lib.hid h
  clear h hr hk hlen
  go_enter Try.func21, Try.ntmps21
  go_wp2_with (
    go_at_call 42
    refine CN.out.mono ?_
    rintro _ w2 ⟨rfl, h2⟩
    rw [HE.out]
    have HB : Blk w2 g 65 #[.string s, .int .i64 (P : Int), .int .i64 0] := HR.out.below h2 HR.out.lt
    have c1 := HB.cell 1
    have f1 := HB.frozen 1
    have HB2 := Lib.hid (HB.set_ 1 (.int .i64 ((P : Int) + (k : Int))))
    have H2 := Lib.hid (only_setCell (by_below h2) (p := ⟨g, 1, none⟩) (.inl rfl) (.int .i64 ((P : Int) + (k : Int))))
    simp only [List.getElem?_toArray, List.getElem?_cons_zero, List.getElem?_cons_succ] at c1
    clear h2 HB)
  go_ret
  exact ⟨rfl, HB2.out, H2.out⟩
theorem wnum_bad {w : World} {g : Nat} {s : ByteArray} {P : Nat} {e : Int} (h : Rd w g s P 0) (hs : s.size ≤ 1000000) (hP : P ≤ s.size) (hr : (rt (s.data.toList.drop P)).2.2 = e) (he : e ≠ 0) :
    Calls Try.prog 21 #[.pointer (some ⟨g, 0, none⟩)] w fun r w' => r = .returned (.int .i64 0) ∧ Rd w' g s P e ∧ w.grownBy w' (some g) := by
  have hb := rt_bad (l := s.data.toList.drop P) (by rw [hr]; exact he)
  have CN := Lib.hid (rdn_any h hs hP)
  have HE := Lib.hid (show rta (s.data.toList.drop P) = #[.int .i64 0, .int .i64 0, .int .i64 e] by unfold rta; rw [hr, hb.1, hb.2]; rfl)
  have hbe : (e != 0) = true := by simpa using he
  have HR := Lib.hid h
  clear h hr hb
  go_enter Try.func21, Try.ntmps21
  go_wp2_with (
    go_at_call 42
    refine CN.out.mono ?_
    rintro _ w2 ⟨rfl, h2⟩
    rw [HE.out]
    have HB : Blk w2 g 65 #[.string s, .int .i64 (P : Int), .int .i64 0] := HR.out.below h2 HR.out.lt
    have c2 := HB.cell 2
    have f2 := HB.frozen 2
    have HB2 := Lib.hid (HB.set_ 2 (.int .i64 e))
    have H2 := Lib.hid (only_setCell (by_below h2) (p := ⟨g, 2, none⟩) (.inl rfl) (.int .i64 e))
    simp only [List.getElem?_toArray, List.getElem?_cons_zero, List.getElem?_cons_succ] at c2
    clear h2 HB)
  go_ret
  exact ⟨rfl, HB2.out, H2.out⟩
set_option maxHeartbeats 1000000 in
theorem wtext_ok {w : World} {g : Nat} {s : ByteArray} {P n k : Nat} {most : Int} (h : Rd w g s P 0) (hs : s.size ≤ 1000000) (hP : P ≤ s.size) (hr : rt (s.data.toList.drop P) = (n, k, 0)) (hn : P + k + n ≤ s.size) (hm : (n : Int) ≤ most) :
    Calls Try.prog 43 #[.pointer (some ⟨g, 0, none⟩), .int .i64 most] w fun r w' => r = .returned (.string ⟨((s.data.toList.drop (P + k)).take n).toArray⟩) ∧ Rd w' g s ((P : Int) + (k : Int) + (n : Int)) 0 ∧ w.grownBy w' (some g) := by
  have CN := Lib.hid (rdn_any h hs hP)
  have HE := Lib.hid (show rta (s.data.toList.drop P) = #[.int .i64 (n : Int), .int .i64 (k : Int), .int .i64 0] by unfold rta; rw [hr])
  have HR := Lib.hid h
  have ex : s.extract (P + k) (P + k + n) = ⟨((s.data.toList.drop (P + k)).take n).toArray⟩ := by
    apply ByteArray.ext
    rw [ByteArray.data_extract]
    apply Array.toList_inj.1
    rw [Array.toList_extract, List.extract_eq_take_drop]
    simp
  have HEX := Lib.hid ex
  have hfit : (if (s.size : Int) - P - k < n then 14 else if most < n then 2 else 0 : Int) = 0 := by rw [if_neg (by omega), if_neg (by omega)]
  have HFI := Lib.hid hfit
  have hsz : (s.extract (P + k) (P + k + n)).size ≤ 1000000 := by rw [ByteArray.size_extract]; omega
  clear h hr ex hfit
  go_enter Try.func43, Try.ntmps43
  go_wp2_with (first
    | (go_at_call 42
       refine CN.out.mono ?_
       rintro _ w2 ⟨rfl, h2⟩
       rw [HE.out]
       have HB : Rd w2 g s P 0 := HR.out.below h2 HR.out.lt
       have HR2 := Lib.hid HB
       have H2 := Lib.hid (by_below (row := some g) h2)
       clear h2 HB)
    | (go_at_call 49
       refine (fits_any HR2.out hs (by omega) (by omega)).mono ?_
       rintro _ w3 ⟨rfl, h2⟩
       rw [HFI.out]
       have HB : Blk w3 g 65 #[.string s, .int .i64 (P : Int), .int .i64 0] := HR2.out.below h2 HR2.out.lt
       have c0 := HB.cell 0
       have c1 := HB.cell 1
       have f1 := HB.frozen 1
       have HR3 := Lib.hid (HB.set_ 1 (.int .i64 ((P : Int) + (k : Int) + (n : Int))))
       have H3 := Lib.hid (only_setCell (by_then H2.out h2) (p := ⟨g, 1, none⟩) (.inl rfl) (.int .i64 ((P : Int) + (k : Int) + (n : Int))))
       simp only [List.getElem?_toArray, List.getElem?_cons_zero, List.getElem?_cons_succ] at c0 c1
       clear h2 HB)
    | fail)
  generalize hW : World.setCell _ _ _ = W at *
  have d0 := Blk.cell HR3.out 0
  have d1 := Blk.cell HR3.out 1
  simp at d0 d1
  go_region_with (
    go_at_call 50
    refine (sclone_any _ _ hsz).mono ?_
    rintro _ w4 ⟨rfl, h2⟩
    have HR4 : Hid (Rd w4 g s ((P : Int) + (k : Int) + (n : Int)) 0) := Lib.hid (Blk.below (Blk.drew HR3.out) h2 HR3.out.lt)
    have H4 := Lib.hid (by_then (only_drewN H3.out 1) h2)
    clear h2
    go_simp)
  all_goals (
    go_wp2
    go_ret
    exact ⟨by rw [← HEX.out]; rfl, HR4.out, H4.out⟩)
set_option maxHeartbeats 1000000 in
theorem wtext_bad {w : World} {g : Nat} {s : ByteArray} {P : Nat} {most e : Int} (h : Rd w g s P 0) (hs : s.size ≤ 1000000) (hP : P ≤ s.size) (hr : (rt (s.data.toList.drop P)).2.2 = e) (he : e ≠ 0) :
    Calls Try.prog 43 #[.pointer (some ⟨g, 0, none⟩), .int .i64 most] w fun r w' => r = .returned (.string ⟨#[]⟩) ∧ Rd w' g s P e ∧ w.grownBy w' (some g) := by
  have hb := rt_bad (l := s.data.toList.drop P) (by rw [hr]; exact he)
  have CN := Lib.hid (rdn_any h hs hP)
  have HE := Lib.hid (show rta (s.data.toList.drop P) = #[.int .i64 0, .int .i64 0, .int .i64 e] by unfold rta; rw [hr, hb.1, hb.2]; rfl)
  have hbe : (e != 0) = true := by simpa using he
  have hbe2 : (e == 0) = false := by simpa using he
  have HR := Lib.hid h
  clear h hr hb
  go_enter Try.func43, Try.ntmps43
  go_wp2_with (
    go_at_call 42
    refine CN.out.mono ?_
    rintro _ w2 ⟨rfl, h2⟩
    rw [HE.out]
    have HB : Blk w2 g 65 #[.string s, .int .i64 (P : Int), .int .i64 0] := HR.out.below h2 HR.out.lt
    have c2 := HB.cell 2
    have f2 := HB.frozen 2
    have HB2 := Lib.hid (HB.set_ 2 (.int .i64 e))
    have H2 := Lib.hid (only_setCell (by_below h2) (p := ⟨g, 2, none⟩) (.inl rfl) (.int .i64 e))
    simp only [List.getElem?_toArray, List.getElem?_cons_zero, List.getElem?_cons_succ] at c2
    clear h2 HB)
  go_ret
  exact ⟨rfl, HB2.out, H2.out⟩
set_option maxHeartbeats 1000000 in
theorem wtext_over {w : World} {g : Nat} {s : ByteArray} {P n k : Nat} {most e : Int} (h : Rd w g s P 0) (hs : s.size ≤ 1000000) (hP : P ≤ s.size) (hr : rt (s.data.toList.drop P) = (n, k, 0)) (hk : P + k ≤ s.size)
    (hf : (if (s.size : Int) - P - k < n then 14 else if most < n then 2 else 0 : Int) = e) (he : e ≠ 0) :
    Calls Try.prog 43 #[.pointer (some ⟨g, 0, none⟩), .int .i64 most] w fun r w' => r = .returned (.string ⟨#[]⟩) ∧ Rd w' g s P e ∧ w.grownBy w' (some g) := by
  have CN := Lib.hid (rdn_any h hs hP)
  have HE := Lib.hid (show rta (s.data.toList.drop P) = #[.int .i64 (n : Int), .int .i64 (k : Int), .int .i64 0] by unfold rta; rw [hr])
  have hbe : (e != 0) = true := by simpa using he
  have HR := Lib.hid h
  have HFI := Lib.hid hf
  clear h hr hf
  go_enter Try.func43, Try.ntmps43
  go_wp2_with (first
    | (go_at_call 42
       refine CN.out.mono ?_
       rintro _ w2 ⟨rfl, h2⟩
       rw [HE.out]
       have HB : Rd w2 g s P 0 := HR.out.below h2 HR.out.lt
       have HR2 := Lib.hid HB
       have H2 := Lib.hid (by_below (row := some g) h2)
       clear h2 HB)
    | (go_at_call 49
       refine (fits_any HR2.out hs (by omega) (by omega)).mono ?_
       rintro _ w3 ⟨rfl, h2⟩
       rw [HFI.out]
       have HB : Blk w3 g 65 #[.string s, .int .i64 (P : Int), .int .i64 0] := HR2.out.below h2 HR2.out.lt
       have c2 := HB.cell 2
       have f2 := HB.frozen 2
       have HB2 := Lib.hid (HB.set_ 2 (.int .i64 e))
       have H3 := Lib.hid (only_setCell (by_then H2.out h2) (p := ⟨g, 2, none⟩) (.inl rfl) (.int .i64 e))
       simp only [List.getElem?_toArray, List.getElem?_cons_zero, List.getElem?_cons_succ] at c2
       clear h2 HB))
  go_ret
  exact ⟨rfl, HB2.out, H3.out⟩
theorem wnum_err {w : World} {g : Nat} {s : ByteArray} {P : Nat} {e : Int} (h : Rd w g s P e) (he : e ≠ 0) :
    Calls Try.prog 21 #[.pointer (some ⟨g, 0, none⟩)] w fun r w' => r = .returned (.int .i64 0) ∧ Rd w' g s P e ∧ w.grownBy w' (some g) := by
  have CN := Lib.hid (rdn_err h he)
  have hbe : (e != 0) = true := by simpa using he
  have hbe2 : (e == 0) = false := by simpa using he
  have HR := Lib.hid h
  clear h
  go_enter Try.func21, Try.ntmps21
  go_wp2_with (
    go_at_call 42
    refine CN.out.mono ?_
    rintro _ w2 ⟨rfl, h2⟩
    have HB : Blk w2 g 65 #[.string s, .int .i64 (P : Int), .int .i64 e] := HR.out.below h2 HR.out.lt
    have c2 := HB.cell 2
    have f2 := HB.frozen 2
    have HB2 := Lib.hid (HB.set_ 2 (.int .i64 e))
    have H2 := Lib.hid (only_setCell (by_below h2) (p := ⟨g, 2, none⟩) (.inl rfl) (.int .i64 e))
    simp only [List.getElem?_toArray, List.getElem?_cons_zero, List.getElem?_cons_succ] at c2
    clear h2 HB)
  go_ret
  exact ⟨rfl, HB2.out, H2.out⟩
theorem wtext_err {w : World} {g : Nat} {s : ByteArray} {P : Nat} {e : Int} (h : Rd w g s P e) (he : e ≠ 0) (most : Int) :
    Calls Try.prog 43 #[.pointer (some ⟨g, 0, none⟩), .int .i64 most] w fun r w' => r = .returned (.string ⟨#[]⟩) ∧ Rd w' g s P e ∧ w.grownBy w' (some g) := by
  have CN := Lib.hid (rdn_err h he)
  have hbe : (e != 0) = true := by simpa using he
  have hbe2 : (e == 0) = false := by simpa using he
  have HR := Lib.hid h
  clear h
  go_enter Try.func43, Try.ntmps43
  go_wp2_with (
    go_at_call 42
    refine CN.out.mono ?_
    rintro _ w2 ⟨rfl, h2⟩
    have HB : Blk w2 g 65 #[.string s, .int .i64 (P : Int), .int .i64 e] := HR.out.below h2 HR.out.lt
    have c2 := HB.cell 2
    have f2 := HB.frozen 2
    have HB2 := Lib.hid (HB.set_ 2 (.int .i64 e))
    have H2 := Lib.hid (only_setCell (by_below h2) (p := ⟨g, 2, none⟩) (.inl rfl) (.int .i64 e))
    simp only [List.getElem?_toArray, List.getElem?_cons_zero, List.getElem?_cons_succ] at c2
    clear h2 HB)
  go_ret
  exact ⟨rfl, HB2.out, H2.out⟩
end Go.Proofs.Ytdoldjfabgcgbaa
