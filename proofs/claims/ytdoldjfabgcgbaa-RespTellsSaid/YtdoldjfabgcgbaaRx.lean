/- The reader's Text: its walk. -/
import Derived.Test.YtdoldjfabgcgbaaRn
namespace Go.Proofs.Ytdoldjfabgcgbaa
open Go.RowKit
set_option linter.unusedVariables false
set_option maxRecDepth 20000
theorem sclone_any (s : ByteArray) (w : World) (hs : s.size ≤ 1000000) : Calls Try.prog 50 #[.string s] w fun e w' => e = .returned (.string s) ∧ Below w.heap.size w w' := by
  have CC := Lib.hid (Try.stringslite_Clone s w (by omega))
  go_enter Try.func50, Try.ntmps50
  go_wp2_with (go_at_call 52; refine CC.out.mono ?_; rintro _ w2 ⟨rfl, h2⟩; have H2 := Lib.hid h2; clear h2)
  go_ret
  exact ⟨rfl, H2.out⟩
set_option maxHeartbeats 1000000 in
theorem text_ok {w : World} {g : Nat} {s : ByteArray} {P n k : Nat} {most : Int} (h : Rd w g s P 0) (hs : s.size ≤ 1000000) (hP : P ≤ s.size) (hr : rt (s.data.toList.drop P) = (n, k, 0)) (hn : P + k + n ≤ s.size) (hm : (n : Int) ≤ most) :
    Calls Try.prog 43 #[.pointer (some ⟨g, 0, none⟩), .int .i64 most] w fun r w' => r = .returned (.string ⟨((s.data.toList.drop (P + k)).take n).toArray⟩) ∧ Rd w' g s ((P : Int) + (k : Int) + (n : Int)) 0 ∧ Below g w w' := by
  have CN := Lib.hid (rdn_any h hs hP)
  have HE := Lib.hid (show rta (s.data.toList.drop P) = #[.int .i64 (n : Int), .int .i64 (k : Int), .int .i64 0] by unfold rta; rw [hr])
  have HR := Lib.hid h
  have ex : s.extract (P + k) (P + k + n) = ⟨((s.data.toList.drop (P + k)).take n).toArray⟩ := by
    apply ByteArray.ext
    rw [ByteArray.data_extract]
    apply Array.toList_inj.1
    rw [Array.toList_extract, List.extract_eq_take_drop]
    simp
  have HEX := Lib.hid ex
  have hfit : (if (s.size : Int) - P - k < n then 14 else if most < n then 2 else 0 : Int) = 0 := by rw [if_neg (by omega), if_neg (by omega)]
  have HFI := Lib.hid hfit
  have hsz : (s.extract (P + k) (P + k + n)).size ≤ 1000000 := by rw [ByteArray.size_extract]; omega
  clear h hr ex hfit
  go_enter Try.func43, Try.ntmps43
  go_wp2_with (first
    | (go_at_call 42
       refine CN.out.mono ?_
       rintro _ w2 ⟨rfl, h2⟩
       rw [HE.out]
       have HB : Rd w2 g s P 0 := HR.out.below h2 HR.out.lt
       have HR2 := Lib.hid HB
       have H2 := Lib.hid (h2.mono (Nat.le_of_lt HR.out.lt))
       clear h2 HB)
    | (go_at_call 49
       refine (fits_any HR2.out hs (by omega) (by omega)).mono ?_
       rintro _ w3 ⟨rfl, h2⟩
       rw [HFI.out]
       have HB : Blk w3 g 65 #[.string s, .int .i64 (P : Int), .int .i64 0] := HR2.out.below h2 HR2.out.lt
       have c0 := HB.cell 0
       have c1 := HB.cell 1
       have f1 := HB.frozen 1
       have HR3 := Lib.hid (HB.set_ 1 (.int .i64 ((P : Int) + (k : Int) + (n : Int))))
       have H3 := Lib.hid ((H2.out.trans (h2.mono (Nat.le_of_lt HR2.out.lt))).setCell (p := ⟨g, 1, none⟩) (Nat.le_refl _) (.int .i64 ((P : Int) + (k : Int) + (n : Int))))
       simp only [List.getElem?_toArray, List.getElem?_cons_zero, List.getElem?_cons_succ] at c0 c1
       clear h2 HB)
    | fail)
  generalize hW : World.setCell _ _ _ = W at *
  have d0 := Blk.cell HR3.out 0
  have d1 := Blk.cell HR3.out 1
  simp at d0 d1
  go_region_with (
    go_at_call 50
    refine (sclone_any _ _ hsz).mono ?_
    rintro _ w4 ⟨rfl, h2⟩
    have HR4 : Hid (Rd w4 g s ((P : Int) + (k : Int) + (n : Int)) 0) := Lib.hid (Blk.below (Blk.drew HR3.out) h2 HR3.out.lt)
    have H4 := Lib.hid ((H3.out.drew).trans (h2.mono (Nat.le_of_lt HR3.out.lt)))
    clear h2
    go_simp)
  all_goals (
    go_wp2
    go_ret
    exact ⟨by rw [← HEX.out]; rfl, HR4.out, H4.out⟩)
set_option maxHeartbeats 1000000 in
theorem text_bad {w : World} {g : Nat} {s : ByteArray} {P : Nat} {most e : Int} (h : Rd w g s P 0) (hs : s.size ≤ 1000000) (hP : P ≤ s.size) (hr : (rt (s.data.toList.drop P)).2.2 = e) (he : e ≠ 0) :
    Calls Try.prog 43 #[.pointer (some ⟨g, 0, none⟩), .int .i64 most] w fun r w' => r = .returned (.string ⟨#[]⟩) ∧ Rd w' g s P e ∧ Below g w w' := by
  have hb := rt_bad (l := s.data.toList.drop P) (by rw [hr]; exact he)
  have CN := Lib.hid (rdn_any h hs hP)
  have HE := Lib.hid (show rta (s.data.toList.drop P) = #[.int .i64 0, .int .i64 0, .int .i64 e] by unfold rta; rw [hr, hb.1, hb.2]; rfl)
  have hbe : (e != 0) = true := by simpa using he
  have hbe2 : (e == 0) = false := by simpa using he
  have HR := Lib.hid h
  clear h hr hb
  go_enter Try.func43, Try.ntmps43
  go_wp2_with (
    go_at_call 42
    refine CN.out.mono ?_
    rintro _ w2 ⟨rfl, h2⟩
    rw [HE.out]
    have HB : Blk w2 g 65 #[.string s, .int .i64 (P : Int), .int .i64 0] := HR.out.below h2 HR.out.lt
    have c2 := HB.cell 2
    have f2 := HB.frozen 2
    have HB2 := Lib.hid (HB.set_ 2 (.int .i64 e))
    have H2 := Lib.hid ((h2.mono (Nat.le_of_lt HR.out.lt)).setCell (p := ⟨g, 2, none⟩) (Nat.le_refl _) (.int .i64 e))
    simp only [List.getElem?_toArray, List.getElem?_cons_zero, List.getElem?_cons_succ] at c2
    clear h2 HB)
  go_ret
  exact ⟨rfl, HB2.out, H2.out⟩
set_option maxHeartbeats 1000000 in
theorem text_over {w : World} {g : Nat} {s : ByteArray} {P n k : Nat} {most e : Int} (h : Rd w g s P 0) (hs : s.size ≤ 1000000) (hP : P ≤ s.size) (hr : rt (s.data.toList.drop P) = (n, k, 0)) (hk : P + k ≤ s.size)
    (hf : (if (s.size : Int) - P - k < n then 14 else if most < n then 2 else 0 : Int) = e) (he : e ≠ 0) :
    Calls Try.prog 43 #[.pointer (some ⟨g, 0, none⟩), .int .i64 most] w fun r w' => r = .returned (.string ⟨#[]⟩) ∧ Rd w' g s P e ∧ Below g w w' := by
  have CN := Lib.hid (rdn_any h hs hP)
  have HE := Lib.hid (show rta (s.data.toList.drop P) = #[.int .i64 (n : Int), .int .i64 (k : Int), .int .i64 0] by unfold rta; rw [hr])
  have hbe : (e != 0) = true := by simpa using he
  have HR := Lib.hid h
  have HFI := Lib.hid hf
  clear h hr hf
  go_enter Try.func43, Try.ntmps43
  go_wp2_with (first
    | (go_at_call 42
       refine CN.out.mono ?_
       rintro _ w2 ⟨rfl, h2⟩
       rw [HE.out]
       have HB : Rd w2 g s P 0 := HR.out.below h2 HR.out.lt
       have HR2 := Lib.hid HB
       have H2 := Lib.hid (h2.mono (Nat.le_of_lt HR.out.lt))
       clear h2 HB)
    | (go_at_call 49
       refine (fits_any HR2.out hs (by omega) (by omega)).mono ?_
       rintro _ w3 ⟨rfl, h2⟩
       rw [HFI.out]
       have HB : Blk w3 g 65 #[.string s, .int .i64 (P : Int), .int .i64 0] := HR2.out.below h2 HR2.out.lt
       have c2 := HB.cell 2
       have f2 := HB.frozen 2
       have HB2 := Lib.hid (HB.set_ 2 (.int .i64 e))
       have H3 := Lib.hid ((H2.out.trans (h2.mono (Nat.le_of_lt HR2.out.lt))).setCell (p := ⟨g, 2, none⟩) (Nat.le_refl _) (.int .i64 e))
       simp only [List.getElem?_toArray, List.getElem?_cons_zero, List.getElem?_cons_succ] at c2
       clear h2 HB))
  go_ret
  exact ⟨rfl, HB2.out, H3.out⟩
end Go.Proofs.Ytdoldjfabgcgbaa
