/- The document's own dates: how a date is shown, which number, how long until. -/
import Derived.Test.YtelkbodhipfjaaaDoorRf
namespace Go.Proofs.YtelkbodhipfjaaaDoor
open Go.RowKit
set_option linter.unusedVariables false
set_option maxRecDepth 100000
attribute [local go_sem ↓] Go.wp_at_zero Go.wp_at_succ
set_option maxHeartbeats 4000000 in
theorem rshow_any (y m d : Int) (w : World) : Calls Tryd.prog 15 #[.agg #[.int .i64 y, .int .i64 m, .int .i64 d]] w fun e w' => e = .returned (.string (showS y m d)) ∧ Below w.heap.size w w' := by
  cases hm : mayB y m d
  · have HM := Lib.hid hm
    clear hm
    go_enter Tryd.func15, Tryd.ntmps15
    go_wp2_with (first
      | (go_at_call 13; refine (rmay_any _ _ _ _).mono ?_; rintro _ w2 ⟨rfl, hb⟩; rw [HM.out]; have HB := Lib.hid hb; clear hb)
      | fail)
    go_ret
    exact ⟨by unfold showS; rw [HM.out]; rfl, ((Below.refl _ _).alloc (Nat.le_refl _) _).trans (HB.out.mono (by simp))⟩
  · have HM := Lib.hid hm
    obtain ⟨m1, m2, m3, m4, m5, m6⟩ := may_iff.1 hm
    have m7 := (dim_bd y m).2
    have HSH := Lib.hid (show showS y m d = ⟨(showL y.toNat m.toNat d.toNat).toArray⟩ by unfold showS; rw [if_pos hm])
    rw [HSH.out]
    clear HSH hm
    obtain ⟨Y, rfl⟩ := Int.eq_ofNat_of_zero_le m1
    obtain ⟨M, rfl⟩ := Int.eq_ofNat_of_zero_le (show 0 ≤ m by omega)
    obtain ⟨D, rfl⟩ := Int.eq_ofNat_of_zero_le (show 0 ≤ d by omega)
    simp only [Int.toNat_natCast]
    have HMM := Lib.hid (show M < 100000 by omega)
    have HDD := Lib.hid (show D < 100000 by omega)
    have HYY := Lib.hid (show Y < 100000 by omega)
    clear m2 m3 m4 m5 m6 m7 m1
    obtain ⟨Q, hQ⟩ : ∃ Q : ByteArray, (⟨(dig2 (Y / 100)).toArray⟩ : ByteArray) = Q := ⟨_, rfl⟩
    obtain ⟨Z, hZ⟩ : ∃ Q : ByteArray, (⟨(dig2 Y).toArray⟩ : ByteArray) = Q := ⟨_, rfl⟩
    obtain ⟨P, hP⟩ : ∃ P : ByteArray, (⟨(dig2 M).toArray⟩ : ByteArray) = P := ⟨_, rfl⟩
    obtain ⟨R, hR⟩ : ∃ R : ByteArray, (⟨(dig2 D).toArray⟩ : ByteArray) = R := ⟨_, rfl⟩
    have hQs : Q.size = 2 := by rw [← hQ]; rfl
    have hZs : Z.size = 2 := by rw [← hZ]; rfl
    have hPs : P.size = 2 := by rw [← hP]; rfl
    have hRs : R.size = 2 := by rw [← hR]; rfl
    have HQ := Lib.hid hQ
    have HZ := Lib.hid hZ
    have HP := Lib.hid hP
    have HR := Lib.hid hR
    clear hQ hP hR hZ
    by_cases h0 : Y = 0
    · have HL := Lib.hid (show (⟨(showL Y M D).toArray⟩ : ByteArray) = ⟨#[45]⟩ ++ ⟨#[45]⟩ ++ P ++ ⟨#[45]⟩ ++ R by
        apply bs_ext
        rw [← HP.out, ← HR.out]
        simp [showL, headL, h0])
      rw [HL.out]
      have h0' : ((Y : Int) == 0) = true := by simp [h0]
      have H0 := Lib.hid h0
      clear h0
      go_enter Tryd.func15, Tryd.ntmps15
      go_wp2_with (first
        | (go_at_call 13; refine (rmay_any _ _ _ _).mono ?_; rintro _ w2 ⟨rfl, hb⟩; rw [HM.out]; have HX2 := Lib.hid ((Blk.new w 23 #[.int .i64 (Y : Int), .int .i64 (M : Int), .int .i64 (D : Int)]).below hb (by simp)); have HB := Lib.hid (((Below.refl w.heap.size w).alloc (Nat.le_refl _) _).trans (hb.mono (by simp))); obtain ⟨a0, a1, a2⟩ := Blk3.cells HX2.out; clear hb)
        | fail)
      have b1x : w2.drew.cell? ⟨w.heap.size, 1, none⟩ = some (.int .i64 (M : Int)) := HX2.out.cell 1
      have b2x : w2.drew.cell? ⟨w.heap.size, 2, none⟩ = some (.int .i64 (D : Int)) := HX2.out.cell 2
      have HLTx := Lib.hid HX2.out.lt
      go_region_held3 (fun w' => w'.cell? ⟨w.heap.size, 1, none⟩ = some (.int .i64 (M : Int)) ∧ w'.cell? ⟨w.heap.size, 2, none⟩ = some (.int .i64 (D : Int))) (refine ⟨?_, ?_⟩ <;> assumption) (first
        | (go_at_call 25
           (with_reducible refine (two_any M HMM.out _).mono ?_)
           rintro _ w5x ⟨rfl, hb⟩
           rw [HP.out]
           have HX5x := Lib.hid ((HX2.out.drew).below hb HLTx.out)
           have c1x : w5x.cell? ⟨w.heap.size, 1, none⟩ = some (.int .i64 (M : Int)) := HX5x.out.cell 1
           have c2x : w5x.cell? ⟨w.heap.size, 2, none⟩ = some (.int .i64 (D : Int)) := HX5x.out.cell 2
           have HB5x := Lib.hid (HB.out.drew.trans (hb.mono HB.out.size))
           clear hb)
        | (go_at_call 25
           (with_reducible refine (two_any D HDD.out _).mono ?_)
           rintro _ w6x ⟨rfl, hb⟩
           rw [HR.out]
           have HX6x := Lib.hid (HX5x.out.below hb HX5x.out.lt)
           have d1x : w6x.cell? ⟨w.heap.size, 1, none⟩ = some (.int .i64 (M : Int)) := HX6x.out.cell 1
           have d2x : w6x.cell? ⟨w.heap.size, 2, none⟩ = some (.int .i64 (D : Int)) := HX6x.out.cell 2
           have HB6x := Lib.hid (HB5x.out.trans (hb.mono HB5x.out.size))
           clear hb))
      all_goals (
        go_wp2
        go_ret
        exact ⟨rfl, HB6x.out⟩)
    · have HL := Lib.hid (show (⟨(showL Y M D).toArray⟩ : ByteArray) = Q ++ Z ++ ⟨#[45]⟩ ++ P ++ ⟨#[45]⟩ ++ R by
        apply bs_ext
        rw [← HP.out, ← HR.out, ← HQ.out, ← HZ.out]
        have e1 : Y / 100 / 10 = Y / 1000 := by omega
        simp [showL, headL, h0, dig4, dig2, e1])
      rw [HL.out]
      have h0' : ((Y : Int) == 0) = false := by simpa using h0
      have H0 := Lib.hid h0
      have hq : (Y : Int) / 100 = ((Y / 100 : Nat) : Int) := by omega
      obtain ⟨q, hq2⟩ : ∃ q : Nat, Y / 100 = q := ⟨_, rfl⟩
      rw [hq2] at hq HQ
      have HQB := Lib.hid (show q < 100000 by have := HYY.out; omega)
      have htd : (Y : Int).tdiv 100 = (q : Int) := by rw [Int.tdiv_eq_ediv_of_nonneg (by omega)]; exact hq
      have hwq : IntKind.i64.wrap (q : Int) = (q : Int) := IntWalk.i64_in _ (by have := HQB.out; omega)
      clear h0 hq2
      go_enter Tryd.func15, Tryd.ntmps15
      go_wp2_with (first
        | (go_at_call 13; refine (rmay_any _ _ _ _).mono ?_; rintro _ w2 ⟨rfl, hb⟩; rw [HM.out]; have HX2 := Lib.hid ((Blk.new w 23 #[.int .i64 (Y : Int), .int .i64 (M : Int), .int .i64 (D : Int)]).below hb (by simp)); have HB := Lib.hid (((Below.refl w.heap.size w).alloc (Nat.le_refl _) _).trans (hb.mono (by simp))); obtain ⟨a0, a1, a2⟩ := Blk3.cells HX2.out; clear hb)
        | fail)
      have b1y : w2.drew.cell? ⟨w.heap.size, 0, none⟩ = some (.int .i64 (Y : Int)) := HX2.out.cell 0
      have b2y : w2.drew.cell? ⟨w.heap.size, 1, none⟩ = some (.int .i64 (M : Int)) := HX2.out.cell 1
      have HLTy := Lib.hid HX2.out.lt
      go_region_held3 (fun w' => w'.cell? ⟨w.heap.size, 0, none⟩ = some (.int .i64 (Y : Int)) ∧ w'.cell? ⟨w.heap.size, 1, none⟩ = some (.int .i64 (M : Int))) (refine ⟨?_, ?_⟩ <;> assumption) (first
        | (go_at_call 25
           (with_reducible refine (two_any q HQB.out _).mono ?_)
           rintro _ w5y ⟨rfl, hb⟩
           rw [HQ.out]
           have HX5y := Lib.hid ((HX2.out.drew).below hb HLTy.out)
           have c1y : w5y.cell? ⟨w.heap.size, 0, none⟩ = some (.int .i64 (Y : Int)) := HX5y.out.cell 0
           have c2y : w5y.cell? ⟨w.heap.size, 1, none⟩ = some (.int .i64 (M : Int)) := HX5y.out.cell 1
           have HB5y := Lib.hid (HB.out.drew.trans (hb.mono HB.out.size))
           clear hb)
        | (go_at_call 25
           (with_reducible refine (two_any Y HYY.out _).mono ?_)
           rintro _ w6y ⟨rfl, hb⟩
           rw [HZ.out]
           have HX6y := Lib.hid (HX5y.out.below hb HX5y.out.lt)
           have d1y : w6y.cell? ⟨w.heap.size, 0, none⟩ = some (.int .i64 (Y : Int)) := HX6y.out.cell 0
           have d2y : w6y.cell? ⟨w.heap.size, 1, none⟩ = some (.int .i64 (M : Int)) := HX6y.out.cell 1
           have HB6y := Lib.hid (HB5y.out.trans (hb.mono HB5y.out.size))
           clear hb))
      all_goals (
        have HX7 := Lib.hid HX6y.out
        clear b1y b2y c1y c2y
        go_wp2_with fail
        have b1x : w6y.drew.cell? ⟨w.heap.size, 1, none⟩ = some (.int .i64 (M : Int)) := HX7.out.cell 1
        have b2x : w6y.drew.cell? ⟨w.heap.size, 2, none⟩ = some (.int .i64 (D : Int)) := HX7.out.cell 2
        have HLTx := Lib.hid HX7.out.lt
        go_region_held3 (fun w' => w'.cell? ⟨w.heap.size, 1, none⟩ = some (.int .i64 (M : Int)) ∧ w'.cell? ⟨w.heap.size, 2, none⟩ = some (.int .i64 (D : Int))) (refine ⟨?_, ?_⟩ <;> assumption) (first
          | (go_at_call 25
             (with_reducible refine (two_any M HMM.out _).mono ?_)
             rintro _ w5x ⟨rfl, hb⟩
             rw [HP.out]
             have HX5x := Lib.hid ((HX7.out.drew).below hb HLTx.out)
             have c1x : w5x.cell? ⟨w.heap.size, 1, none⟩ = some (.int .i64 (M : Int)) := HX5x.out.cell 1
             have c2x : w5x.cell? ⟨w.heap.size, 2, none⟩ = some (.int .i64 (D : Int)) := HX5x.out.cell 2
             have HB5x := Lib.hid (HB6y.out.drew.trans (hb.mono HB6y.out.size))
             clear hb)
          | (go_at_call 25
             (with_reducible refine (two_any D HDD.out _).mono ?_)
             rintro _ w6x ⟨rfl, hb⟩
             rw [HR.out]
             have HX6x := Lib.hid (HX5x.out.below hb HX5x.out.lt)
             have d1x : w6x.cell? ⟨w.heap.size, 1, none⟩ = some (.int .i64 (M : Int)) := HX6x.out.cell 1
             have d2x : w6x.cell? ⟨w.heap.size, 2, none⟩ = some (.int .i64 (D : Int)) := HX6x.out.cell 2
             have HB6x := Lib.hid (HB5x.out.trans (hb.mono HB5x.out.size))
             clear hb))
        all_goals (
          go_wp2
          go_ret
          exact ⟨rfl, HB6x.out⟩))
set_option maxHeartbeats 2000000 in
theorem rcount_any (y m d : Int) (w : World) : Calls Tryd.prog 17 #[.agg #[.int .i64 y, .int .i64 m, .int .i64 d]] w fun e w' => e = .returned (.int .i64 (cnt y m d)) ∧ Below w.heap.size w w' := by
  cases hm : mayB y m d
  · have HM := Lib.hid hm
    clear hm
    go_enter Tryd.func17, Tryd.ntmps17
    go_wp2_with (first
      | (go_at_call 13; refine (rmay_any _ _ _ _).mono ?_; rintro _ w2 ⟨rfl, hb⟩; rw [HM.out]; have HB := Lib.hid hb; clear hb)
      | fail)
    go_ret
    exact ⟨ret_i64 (by unfold cnt; rw [HM.out]; simp), ((Below.refl _ _).alloc (Nat.le_refl _) _).trans (HB.out.mono (by simp))⟩
  · have HM := Lib.hid hm
    have hm2 := may_iff.1 hm
    clear hm
    by_cases h0 : y = 0
    · subst h0
      clear hm2
      go_enter Tryd.func17, Tryd.ntmps17
      go_wp2_with (first
        | (go_at_call 13; refine (rmay_any _ _ _ _).mono ?_; rintro _ w2 ⟨rfl, hb⟩; rw [HM.out]; obtain ⟨d1, d2, d3⟩ := Blk3.cells ((Blk.new w 23 #[.int .i64 0, .int .i64 m, .int .i64 d]).below hb (by simp)); have HB := Lib.hid hb; clear hb)
        | fail)
      go_ret
      exact ⟨ret_i64 (by unfold cnt; simp), ((Below.refl _ _).alloc (Nat.le_refl _) _).trans (HB.out.mono (by simp))⟩
    · have d0 : (y == 0) = false := by simpa using h0
      obtain ⟨m1, m2, m3, m4, m5, m6⟩ := hm2
      have HDD := Lib.hid (dim_bd y m)
      have m7 : d ≤ 31 := by have := HDD.out; omega
      have HM6 := Lib.hid m6
      clear m6
      obtain ⟨z, hz⟩ : ∃ z : Nat, y = (z : Int) + 1 := ⟨(y - 1).toNat, by omega⟩
      subst hz
      obtain ⟨q, hq⟩ : ∃ q : Nat, m = (q : Int) + 1 := ⟨(m - 1).toNat, by omega⟩
      subst hq
      have HX0 := Lib.hid (Bx2.start w ((z : Int) + 1) ((q : Int) + 1) d)
      go_enter Tryd.func17, Tryd.ntmps17
      go_wp2_with (first
        | (go_at_call 13; refine (rmay_any _ _ _ _).mono ?_; rintro _ w2 ⟨rfl, hb⟩; rw [HM.out]; have HX2 := Lib.hid (HX0.out.step hb); obtain ⟨d1, d2, d3⟩ := HX2.out.one3; clear hb)
        | fail)
      obtain ⟨bs, hbs⟩ : ∃ bs : Int, 365 * (z : Int) + (z : Int) / 4 - (z : Int) / 100 + (z : Int) / 400 = bs := ⟨_, rfl⟩
      have HBS := Lib.hid (show base ((z : Int) + 1) = bs by rw [← hbs]; unfold base; omega)
      have hb0 : 0 ≤ bs := by omega
      have hb1 : bs ≤ 4000000 := by omega
      rw [hbs]
      clear hbs d1 d2 d3
      generalize w.heap.size = B at HX2 ⊢
      go_loopw [4, 5] (fun n mm wr => ∃ k : Nat, k ≤ q ∧ mm = .int .i64 ((k : Int) + 1) ∧ n = .int .i64 (bs + cumN ((z : Int) + 1) k) ∧ Bx2 w wr B B ((z : Int) + 1) ((q : Int) + 1) d ((z : Int) + 1) ((q : Int) + 1) d) (fun _ mm _ => (q + 1) - (intOf mm).toNat)
      case atStart => exact ⟨0, Nat.zero_le _, rfl, by simp [cumN], HX2.out⟩
      case round =>
        obtain ⟨k, hk, rfl, rfl, hx⟩ := hrel
        have HX := Lib.hid hx
        obtain ⟨e0, e1, e2⟩ := hx.one3
        clear hx
        obtain ⟨cu, hcu⟩ : ∃ cu, cumN ((z : Int) + 1) k = cu := ⟨_, rfl⟩
        obtain ⟨cu0, cu1⟩ := cum_bd ((z : Int) + 1) k
        rw [hcu] at cu0 cu1 ⊢
        obtain ⟨dd, hdd⟩ : ∃ dd, dim ((z : Int) + 1) ((k : Int) + 1) = dd := ⟨_, rfl⟩
        obtain ⟨dd0, dd1⟩ := dim_bd ((z : Int) + 1) ((k : Int) + 1)
        rw [hdd] at dd0 dd1
        have HCU := Lib.hid (show cumN ((z : Int) + 1) (k + 1) = cu + dd by show cumN _ k + dim _ _ = _; rw [hcu, hdd])
        have HC0 := Lib.hid hcu
        have HDD2 := Lib.hid hdd
        clear hcu hdd
        by_cases hlt : k < q
        · go_wp2_with (first
            | (go_at_call 23; refine (month_any _ _ (by omega) (by omega) _).mono ?_; rintro _ w3 ⟨rfl, hb⟩; rw [HDD2.out]; have HX3 := Lib.hid (HX.out.step hb); clear hb)
            | fail)
          go_roundw
          case rel => exact ⟨k + 1, by omega, by go_num, by rw [HCU.out]; go_num, HX3.out⟩
          case measure => simp [intOf]; omega
        · obtain rfl : k = q := by omega
          go_wp2
          go_ret
          refine ⟨ret_i64 ?_, HX.out.bel⟩
          unfold cnt
          rw [if_pos ⟨HM.out, by omega⟩, HBS.out, show ((k : Int) + 1 - 1).toNat = k by omega, HC0.out]
end Go.Proofs.YtelkbodhipfjaaaDoor
