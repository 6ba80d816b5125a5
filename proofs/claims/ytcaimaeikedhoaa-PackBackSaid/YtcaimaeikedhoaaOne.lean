/- PackOne: its walk. -/
import Derived.Test.YtcaimaeikedhoaaFst
import Derived.Deep.RegionHeld
namespace Go.Proofs.Ytcaimaeikedhoaa
open Go.RowKit
set_option linter.unusedVariables false
set_option maxRecDepth 20000
set_option maxHeartbeats 1000000 in
theorem one_bad (w : World) (A : Option Addr) (len cap b off : Nat) (l : List UInt8) (h : Byt w A len cap b off l) (hlen : len ≤ 100) (e : Int) (hr : (rt l).2.2 = e) (he : e ≠ 0) :
    Calls Try.prog 5 #[.slice A len cap] w fun e w' => e = .returned (.bool true) ∧ Below w.heap.size w w' := by
  have CF := Lib.hid first_any
  have hl := h.hlen
  have hsz : (⟨l.toArray⟩ : ByteArray).size = len := by show l.toArray.size = len; simpa using hl
  have HB := Lib.hid h
  have HSZ := Lib.hid hsz
  have HRT := Lib.hid hr
  have hbe : (e != 0) = true := by simpa using he
  clear h hl hr hsz
  have H0 := Lib.hid (Below.refl w.heap.size w)
  go_enter Try.func5, Try.ntmps5
  go_wp2_with (first
    | (go_at_call 6; refine (CF.out _).mono ?_; rintro _ w1 ⟨rfl, h1⟩; have H0 := Lib.hid (H0.out.trans (h1.mono H0.out.size)); clear h1)
    | (go_at_call 11
       refine (read_any (HB.out.below H0.out)).mono ?_
       rintro _ w2 ⟨rfl, h1, h2⟩
       have HR := Lib.hid h1
       have HG := Lib.hid (H0.out.size)
       have H0 := Lib.hid (H0.out.trans (h2.mono H0.out.size))
       generalize w1.heap.size = g at *
       clear h1 h2)
    | (go_at_call 12
       refine (num_bad (P := 0) HR.out (by rw [HSZ.out]; omega) (by omega) HRT.out he).mono ?_
       rintro _ w3 ⟨rfl, h1, h2⟩
       have HR3 := Lib.hid h1
       have H0 := Lib.hid (H0.out.trans (h2.mono HG.out))
       clear h1 h2)
    | (go_at_call 14
       refine (err_any HR3.out).mono ?_
       rintro _ w4 ⟨rfl, h2⟩
       have HR4 := Lib.hid (show Rd w4 g ⟨l.toArray⟩ ((0 : Nat) : Int) e from Blk.below HR3.out h2 (Blk.lt HR3.out))
       have H0 := Lib.hid (H0.out.trans (h2.mono H0.out.size))
       clear h2)
    | (go_at_call 15
       refine (left_any HR4.out (by omega) (by omega) (by rw [HSZ.out]; omega)).mono ?_
       rintro _ w5 ⟨rfl, h2⟩
       rw [HSZ.out]
       have H0 := Lib.hid (H0.out.trans (h2.mono H0.out.size))
       clear h2)
    | fail)
  go_ret
  exact ⟨rfl, H0.out⟩
set_option maxHeartbeats 1000000 in
theorem one_ok (w : World) (A : Option Addr) (len cap b off : Nat) (l : List UInt8) (h : Byt w A len cap b off l) (hlen : len ≤ 100) (n k : Nat) (hr : rt l = (n, k, 0)) :
    Calls Try.prog 5 #[.slice A len cap] w fun e w' => e = .returned (.bool true) ∧ Below w.heap.size w w' := by
  have CF := Lib.hid first_any
  have hl := h.hlen
  have hsz : (⟨l.toArray⟩ : ByteArray).size = len := by show l.toArray.size = len; simpa using hl
  obtain ⟨henc, hk1, hk2, hn⟩ := rt_ok hr
  have hkl : k ≤ len := by omega
  have hkc : (k : Int) ≤ (cap : Int) := by have := h.le; omega
  have hk0 : (0 : Int) ≤ (k : Int) := by omega
  obtain ⟨rfl, _⟩ := h.addr (by omega)
  have HB := Lib.hid h
  have HSZ := Lib.hid hsz
  have HRT := Lib.hid hr
  have HENC := Lib.hid (show encz (n : Int) = l.take k by rw [← henc]; unfold encz; rw [if_neg (by omega), Int.toNat_natCast])
  have HN := Lib.hid hn
  clear h hl hr hsz henc hk2 hn
  have H0 := Lib.hid (Below.refl w.heap.size w)
  go_enter Try.func5, Try.ntmps5
  go_wp2_with (first
    | (go_at_call 6; refine (CF.out _).mono ?_; rintro _ w1 ⟨rfl, h1⟩; have H0 := Lib.hid (H0.out.trans (h1.mono H0.out.size)); clear h1)
    | (go_at_call 11
       refine (read_any (HB.out.below H0.out)).mono ?_
       rintro _ w2 ⟨rfl, h1, h2⟩
       have HR := Lib.hid h1
       have HG := Lib.hid (H0.out.size)
       have H0 := Lib.hid (H0.out.trans (h2.mono H0.out.size))
       generalize w1.heap.size = g at *
       clear h1 h2)
    | (go_at_call 12
       refine (num_ok (P := 0) HR.out (by rw [HSZ.out]; omega) (by omega) HRT.out).mono ?_
       rintro _ w3 ⟨rfl, h1, h2⟩
       have HR3 := Lib.hid (show Rd w3 g ⟨l.toArray⟩ (k : Int) 0 by simpa using h1)
       have H0 := Lib.hid (H0.out.trans (h2.mono HG.out))
       clear h1 h2)
    | (go_at_call 14
       refine (err_any HR3.out).mono ?_
       rintro _ w4 ⟨rfl, h2⟩
       have HR4 := Lib.hid (show Rd w4 g ⟨l.toArray⟩ (k : Int) 0 from Blk.below HR3.out h2 (Blk.lt HR3.out))
       have H0 := Lib.hid (H0.out.trans (h2.mono H0.out.size))
       clear h2)
    | (go_at_call 15
       refine (left_any HR4.out (by omega) (by rw [HSZ.out]; omega) (by rw [HSZ.out]; omega)).mono ?_
       rintro _ w5 ⟨rfl, h2⟩
       rw [HSZ.out]
       have H0 := Lib.hid (H0.out.trans (h2.mono H0.out.size))
       clear h2)
    | fail)
  rw [show (len : Int) - ((len : Int) - (k : Int)) = (k : Int) by omega]
  have g1 : decide (0 ≤ (n : Int)) = true := by simp
  have g2 : decide (1 ≤ (k : Int)) = true := by simp; omega
  have g3 : decide ((k : Int) ≤ (len : Int)) = true := by simp; omega
  have hc0 : (convert 22 9 (.slice (some ⟨b, off, none⟩) k cap)).run Try.prog w5.drew = .ok (.string ⟨(l.take k).toArray⟩) w5.drew := byt_text (((HB.out.below H0.out).first k (by omega)).below (below_drewN (Below.refl _ _) 1))
  have HL := Lib.hid hlen
  have HKL := Lib.hid hkl
  clear hlen
  go_region_held (fun w' => (convert 22 9 (.slice (some ⟨b, off, none⟩) k cap)).run Try.prog w' = .ok (.string ⟨(l.take k).toArray⟩) w') (assumption) (first
  | (go_at_call 7
     (with_reducible refine (num_any (nil_byt _) (by omega) (n : Int) (by have := HN.out; omega)).mono ?_)
     rintro _ w6 ⟨v6, rfl, h1, h2⟩
     rw [List.nil_append, HENC.out] at h1
     have HT := own_text h1
     have H6 := Lib.hid (H0.out.drew.trans (h2.mono H0.out.drew.size))
     have hc6 : (convert 22 9 (.slice (some ⟨b, off, none⟩) k cap)).run Try.prog w6 = .ok (.string ⟨(l.take k).toArray⟩) w6 := byt_text ((HB.out.below H6.out).first k HKL.out)
     clear h1 h2))
  all_goals (
    go_wp2
    go_ret
    exact ⟨rfl, H6.out⟩)
theorem one_big (w : World) (A : Option Addr) (len cap : Nat) (hs : 100 < len) :
    Calls Try.prog 5 #[.slice A len cap] w fun e w' => e = .returned (.bool true) ∧ Below w.heap.size w w' := by
  have CF := Lib.hid first_any
  have H0 := Lib.hid (Below.refl w.heap.size w)
  go_enter Try.func5, Try.ntmps5
  go_wp2_with (go_at_call 6; refine (CF.out _).mono ?_; rintro _ w1 ⟨rfl, h1⟩; have H0 := Lib.hid (H0.out.trans (h1.mono H0.out.size)); clear h1)
  all_goals (try omega)
  all_goals (try (go_ret; exact ⟨rfl, Hid.out ‹Hid (Below w.heap.size w _)›⟩))
theorem packOne_walk (w : World) (A0 : Option Addr) (len0 cap0 : Nat) (S0 : Sh.ok w (Sh.slice 1 (Sh.int .u8)) [.slice A0 len0 cap0]) :
    Calls Try.prog 5 #[.slice A0 len0 cap0] w fun e w' => e = .returned (.bool true) ∧ Below w.heap.size w w' := by
  obtain ⟨b, off, l, h⟩ := byt_open S0
  by_cases hs : 100 < len0
  · exact one_big w A0 len0 cap0 hs
  · by_cases he : (rt l).2.2 = 0
    · exact one_ok w A0 len0 cap0 b off l h (by omega) (rt l).1 (rt l).2.1 (by rw [← he])
    · exact one_bad w A0 len0 cap0 b off l h (by omega) _ rfl he
end Go.Proofs.Ytcaimaeikedhoaa
