/- Dates: how a date is shown, and what a text shows. -/
import Derived.Test.YthknkglhppngoaaDoorYd
namespace Go.Proofs.YthknkglhppngoaaDoor.Day
open Go.RowKit
set_option linter.unusedVariables false
set_option maxRecDepth 20000
attribute [local go_sem ↓] Go.wp_at_zero Go.wp_at_succ
def headL (y : Nat) : List UInt8 := if y = 0 then [45, 45] else dig4 y ++ [45]
def showL (y m d : Nat) : List UInt8 := headL y ++ dig2 m ++ [45] ++ dig2 d
def showS (y m d : Int) : ByteArray := if mayB y m d = true then ⟨(showL y.toNat m.toNat d.toNat).toArray⟩ else ⟨#[]⟩
theorem bs_ext {a b : ByteArray} (h : a.data.toList = b.data.toList) : a = b := ByteArray.ext (Array.toList_inj.1 h)
theorem bs_size (a : ByteArray) : a.size = a.data.toList.length := by simp
theorem Lib.TabBelow.mono' {w : World} {B C : Nat} (h : Tab B w) (hBC : B ≤ C) : Tab C w := fun w' hb => h w' (hb.mono hBC)
/-- The table goes on reading so behind a call. -/
theorem tab_on {w w' : World} (h : Tab w.heap.size w) (hb : Below w.heap.size w w') : Tab w'.heap.size w' := Lib.TabBelow.mono' (h.on hb) hb.size
set_option maxHeartbeats 2000000 in
theorem show_any (y m d : Int) (w : World) (ht : Tab w.heap.size w) : Calls Tryd.prog 34 #[.agg #[.int .i64 y, .int .i64 m, .int .i64 d]] w fun e w' => e = .returned (.string (showS y m d)) ∧ Below w.heap.size w w' := by
  cases hm : mayB y m d
  · have HM := Lib.hid hm
    clear hm
    go_enter Tryd.func34, Tryd.ntmps34
    go_wp2_with (first
      | (go_at_call 33; refine (may_any _ _ _ _).mono ?_; rintro _ w2 ⟨rfl, hb⟩; rw [HM.out]; have HB := Lib.hid hb; clear hb)
      | fail)
    go_ret
    exact ⟨by unfold showS; rw [HM.out]; rfl, ((Below.refl _ _).alloc (Nat.le_refl _) _).trans (HB.out.mono (by simp))⟩
  · have HM := Lib.hid hm
    obtain ⟨m1, m2, m3, m4, m5, m6⟩ := may_iff.1 hm
    have m7 := (dim_bd y m).2
    have HSH := Lib.hid (show showS y m d = ⟨(showL y.toNat m.toNat d.toNat).toArray⟩ by unfold showS; rw [if_pos hm])
    rw [HSH.out]
    clear HSH hm
    obtain ⟨Y, rfl⟩ := Int.eq_ofNat_of_zero_le m1
    obtain ⟨M, rfl⟩ := Int.eq_ofNat_of_zero_le (show 0 ≤ m by omega)
    obtain ⟨D, rfl⟩ := Int.eq_ofNat_of_zero_le (show 0 ≤ d by omega)
    simp only [Int.toNat_natCast]
    have HY := Lib.hid (show Y < 10000 by omega)
    have HMM := Lib.hid (show M < 100 by omega)
    have HDD := Lib.hid (show D < 100 by omega)
    clear m2 m3 m4 m5 m6 m7 m1
    have HT0 := Lib.hid (show Tab (w.alloc (.cells #[.int .i64 (Y : Int), .int .i64 (M : Int), .int .i64 (D : Int)] 43)).heap.size (w.alloc (.cells #[.int .i64 (Y : Int), .int .i64 (M : Int), .int .i64 (D : Int)] 43)) from tab_on ht ((Below.refl _ _).alloc (Nat.le_refl _) _))
    obtain ⟨Q, hQ⟩ : ∃ Q : ByteArray, (⟨(dig4 Y).toArray⟩ : ByteArray) = Q := ⟨_, rfl⟩
    obtain ⟨P, hP⟩ : ∃ P : ByteArray, (⟨(dig2 M).toArray⟩ : ByteArray) = P := ⟨_, rfl⟩
    obtain ⟨R, hR⟩ : ∃ R : ByteArray, (⟨(dig2 D).toArray⟩ : ByteArray) = R := ⟨_, rfl⟩
    have hQs : Q.size = 4 := by rw [← hQ]; rfl
    have hPs : P.size = 2 := by rw [← hP]; rfl
    have hRs : R.size = 2 := by rw [← hR]; rfl
    have HQ := Lib.hid hQ
    have HP := Lib.hid hP
    have HR := Lib.hid hR
    clear hQ hP hR
    by_cases h0 : Y = 0
    · have HL := Lib.hid (show (⟨(showL Y M D).toArray⟩ : ByteArray) = ⟨#[45, 45]⟩ ++ P ++ ⟨#[45]⟩ ++ R by
        apply bs_ext
        rw [← HP.out, ← HR.out]
        simp [showL, headL, h0])
      rw [HL.out]
      have h0' : ((Y : Int) == 0) = true := by simp [h0]
      have H0 := Lib.hid h0
      clear h0
      go_enter Tryd.func34, Tryd.ntmps34
      go_wp2_with (first
        | (go_at_call 33; refine (may_any _ _ _ _).mono ?_; rintro _ w2 ⟨rfl, hb⟩; rw [HM.out]; have HX2 := Lib.hid ((Blk.new w 43 #[.int .i64 (Y : Int), .int .i64 (M : Int), .int .i64 (D : Int)]).below hb (by simp)); have HT2 := Lib.hid (tab_on HT0.out hb); have HB := Lib.hid (((Below.refl w.heap.size w).alloc (Nat.le_refl _) _).trans (hb.mono (by simp))); obtain ⟨a0, a1, a2⟩ := Blk3.cells HX2.out; clear hb)
        | fail)
      have b1 : w2.drew.cell? ⟨w.heap.size, 1, none⟩ = some (.int .i64 (M : Int)) := HX2.out.cell 1
      have b2 : w2.drew.cell? ⟨w.heap.size, 2, none⟩ = some (.int .i64 (D : Int)) := HX2.out.cell 2
      have HTD := Lib.hid (show Tab w2.drew.heap.size w2.drew from tab_on HT2.out (Below.refl _ _).drew)
      have HLT := Lib.hid HX2.out.lt
      go_region_held3 (fun w' => w'.cell? ⟨w.heap.size, 1, none⟩ = some (.int .i64 (M : Int)) ∧ w'.cell? ⟨w.heap.size, 2, none⟩ = some (.int .i64 (D : Int))) (refine ⟨?_, ?_⟩ <;> assumption) (first
        | (go_at_call 49
           (with_reducible refine (digits2 M _ HTD.out HMM.out).mono ?_)
           rintro _ w5 ⟨rfl, hb⟩
           rw [HP.out]
           have HX5 := Lib.hid ((HX2.out.drew).below hb HLT.out)
           have c1 : w5.cell? ⟨w.heap.size, 1, none⟩ = some (.int .i64 (M : Int)) := HX5.out.cell 1
           have c2 : w5.cell? ⟨w.heap.size, 2, none⟩ = some (.int .i64 (D : Int)) := HX5.out.cell 2
           have HT5 := Lib.hid (tab_on HTD.out hb)
           have HB5 := Lib.hid (HB.out.drew.trans (hb.mono HB.out.size))
           clear hb HTD)
        | (go_at_call 49
           (with_reducible refine (digits2 D _ HT5.out HDD.out).mono ?_)
           rintro _ w6 ⟨rfl, hb⟩
           rw [HR.out]
           have HX6 := Lib.hid (HX5.out.below hb HX5.out.lt)
           have d1 : w6.cell? ⟨w.heap.size, 1, none⟩ = some (.int .i64 (M : Int)) := HX6.out.cell 1
           have d2 : w6.cell? ⟨w.heap.size, 2, none⟩ = some (.int .i64 (D : Int)) := HX6.out.cell 2
           have HB6 := Lib.hid (HB5.out.trans (hb.mono HB5.out.size))
           clear hb))
      all_goals (
        go_wp2
        go_ret
        exact ⟨rfl, HB6.out⟩)
    · have HL := Lib.hid (show (⟨(showL Y M D).toArray⟩ : ByteArray) = Q ++ ⟨#[45]⟩ ++ P ++ ⟨#[45]⟩ ++ R by
        apply bs_ext
        rw [← HP.out, ← HR.out, ← HQ.out]
        simp [showL, headL, h0])
      rw [HL.out]
      have h0' : ((Y : Int) == 0) = false := by simpa using h0
      have H0 := Lib.hid h0
      clear h0
      go_enter Tryd.func34, Tryd.ntmps34
      go_wp2_with (first
        | (go_at_call 33; refine (may_any _ _ _ _).mono ?_; rintro _ w2 ⟨rfl, hb⟩; rw [HM.out]; have HX2 := Lib.hid ((Blk.new w 43 #[.int .i64 (Y : Int), .int .i64 (M : Int), .int .i64 (D : Int)]).below hb (by simp)); have HT2 := Lib.hid (tab_on HT0.out hb); have HB := Lib.hid (((Below.refl w.heap.size w).alloc (Nat.le_refl _) _).trans (hb.mono (by simp))); obtain ⟨a0, a1, a2⟩ := Blk3.cells HX2.out; clear hb)
        | (go_at_call 49
           (with_reducible refine (digits4 Y _ HT2.out HY.out).mono ?_)
           rintro _ w3 ⟨rfl, hb⟩
           rw [HQ.out]
           have HX3 := Lib.hid (HX2.out.below hb HX2.out.lt)
           have HT3 := Lib.hid (tab_on HT2.out hb)
           have HB3 := Lib.hid (HB.out.trans (hb.mono HB.out.size))
           clear hb HX2 HT2 HB a0 a1 a2)
        | fail)
      have b1 : w3.drew.cell? ⟨w.heap.size, 1, none⟩ = some (.int .i64 (M : Int)) := HX3.out.cell 1
      have b2 : w3.drew.cell? ⟨w.heap.size, 2, none⟩ = some (.int .i64 (D : Int)) := HX3.out.cell 2
      have HTD := Lib.hid (show Tab w3.drew.heap.size w3.drew from tab_on HT3.out (Below.refl _ _).drew)
      have HLT := Lib.hid HX3.out.lt
      go_region_held3 (fun w' => w'.cell? ⟨w.heap.size, 1, none⟩ = some (.int .i64 (M : Int)) ∧ w'.cell? ⟨w.heap.size, 2, none⟩ = some (.int .i64 (D : Int))) (refine ⟨?_, ?_⟩ <;> assumption) (first
        | (go_at_call 49
           (with_reducible refine (digits2 M _ HTD.out HMM.out).mono ?_)
           rintro _ w5 ⟨rfl, hb⟩
           rw [HP.out]
           have HX5 := Lib.hid ((HX3.out.drew).below hb HLT.out)
           have c1 : w5.cell? ⟨w.heap.size, 1, none⟩ = some (.int .i64 (M : Int)) := HX5.out.cell 1
           have c2 : w5.cell? ⟨w.heap.size, 2, none⟩ = some (.int .i64 (D : Int)) := HX5.out.cell 2
           have HT5 := Lib.hid (tab_on HTD.out hb)
           have HB5 := Lib.hid (HB3.out.drew.trans (hb.mono HB3.out.size))
           clear hb HTD)
        | (go_at_call 49
           (with_reducible refine (digits2 D _ HT5.out HDD.out).mono ?_)
           rintro _ w6 ⟨rfl, hb⟩
           rw [HR.out]
           have HX6 := Lib.hid (HX5.out.below hb HX5.out.lt)
           have d1 : w6.cell? ⟨w.heap.size, 1, none⟩ = some (.int .i64 (M : Int)) := HX6.out.cell 1
           have d2 : w6.cell? ⟨w.heap.size, 2, none⟩ = some (.int .i64 (D : Int)) := HX6.out.cell 2
           have HB6 := Lib.hid (HB5.out.trans (hb.mono HB5.out.size))
           clear hb))
      all_goals (
        go_wp2
        go_ret
        exact ⟨rfl, HB6.out⟩)
end Go.Proofs.YthknkglhppngoaaDoor.Day
