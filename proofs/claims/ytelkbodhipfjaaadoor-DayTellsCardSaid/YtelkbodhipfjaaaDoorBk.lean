/- DayBack: its walk. -/
import Derived.Test.YtelkbodhipfjaaaDoorNx
namespace Go.Proofs.YtelkbodhipfjaaaDoor
open Go.RowKit
set_option linter.unusedVariables false
set_option maxRecDepth 100000
attribute [local go_sem ↓] Go.wp_at_zero Go.wp_at_succ
theorem dg_nat (n : Nat) : ((dg n).toNat : Int) = 48 + ((n % 10 : Nat) : Int) := by
  have h : (dg n).toNat = 48 + n % 10 := by unfold dg; rw [UInt8.toNat_ofNat']; omega
  omega
theorem dg_d (n : Nat) : isD (dg n) = true := by
  have := dg_nat n
  unfold isD; simp; omega
theorem num_dig2 (n : Nat) (h : n < 100) : numD (dig2 n) = (n : Int) := by
  have h1 := dg_nat n
  have h2 := dg_nat (n / 10)
  unfold numD dig2
  rw [if_pos (by simp [dg_d])]
  simp only [valD, List.foldl_cons, List.foldl_nil, h1, h2]
  omega
theorem num_dig4 (n : Nat) (h : n < 10000) : numD (dig4 n) = (n : Int) := by
  have h1 := dg_nat n
  have h2 := dg_nat (n / 10)
  have h3 := dg_nat (n / 100)
  have h4 := dg_nat (n / 1000)
  unfold numD dig4
  rw [if_pos (by simp [dg_d])]
  simp only [valD, List.foldl_cons, List.foldl_nil, h1, h2, h3, h4]
  omega
theorem prs_show {y m d : Int} (h : mayB y m d = true) : prs (showS y m d) = some (y, m, d) := by
  have hs : showS y m d = ⟨(showL y.toNat m.toNat d.toNat).toArray⟩ := by unfold showS; rw [if_pos h]
  obtain ⟨a1, a2, a3, a4, a5, a6⟩ := may_iff.1 h
  have a7 := (dim_bd y m).2
  have n2 := num_dig2 m.toNat (by omega)
  have n3 := num_dig2 d.toNat (by omega)
  have n4 := num_dig4 y.toNat (by omega)
  have em : ((m.toNat : Nat) : Int) = m := by omega
  have ed : ((d.toNat : Nat) : Int) = d := by omega
  have ey : ((y.toNat : Nat) : Int) = y := by omega
  rw [em] at n2
  rw [ed] at n3
  rw [ey] at n4
  have hl : (showS y m d).data.toList = showL y.toNat m.toNat d.toNat := by rw [hs]
  by_cases h0 : y.toNat = 0
  · have hy0 : y = 0 := by omega
    have hl2 : (showS y m d).data.toList = [45, 45] ++ (dig2 m.toNat ++ [45] ++ dig2 d.toNat) := by rw [hl]; unfold showL headL; rw [if_pos h0]; simp
    unfold prs
    rw [hl2, if_pos (by simp [Lib.hasPrefix])]
    have ht : Lib.trimPrefix ([45, 45] ++ (dig2 m.toNat ++ [45] ++ dig2 d.toNat)) [45, 45] = dig2 m.toNat ++ [45] ++ dig2 d.toNat := by simp [Lib.trimPrefix, Lib.hasPrefix]
    rw [ht]
    unfold rest3
    have e1 : (dig2 m.toNat ++ [45] ++ dig2 d.toNat).take 2 = dig2 m.toNat := rfl
    have e2 : (dig2 m.toNat ++ [45] ++ dig2 d.toNat).drop 3 = dig2 d.toNat := rfl
    simp only [e1, e2, n2, n3]
    subst hy0
    rw [if_pos ⟨rfl, h, rfl⟩]
  · have hl2 : (showS y m d).data.toList = dig4 y.toNat ++ ([45] ++ (dig2 m.toNat ++ [45] ++ dig2 d.toNat)) := by rw [hl]; unfold showL headL; rw [if_neg h0]; simp
    have hz : (showS y m d).size = 10 := by rw [bs_size, hl2]; rfl
    have hp : Lib.hasPrefix (dig4 y.toNat ++ ([45] ++ (dig2 m.toNat ++ [45] ++ dig2 d.toNat))) [45, 45] = false := by
      have := dg_nat (y.toNat / 1000)
      have hne : ((45 : UInt8) == dg (y.toNat / 1000)) = false := by
        rw [beq_eq_false_iff_ne]
        intro e
        rw [← e] at this
        have h45 : ((45 : UInt8).toNat : Int) = 45 := rfl
        omega
      unfold Lib.hasPrefix dig4
      simp only [List.cons_append, List.isPrefixOf, hne, Bool.false_and]
    unfold prs
    rw [hl2, if_neg (by rw [hp]; simp), if_neg (by omega)]
    unfold rest3
    have e0 : (dig4 y.toNat ++ ([45] ++ (dig2 m.toNat ++ [45] ++ dig2 d.toNat))).take 4 = dig4 y.toNat := rfl
    have er : ((showS y m d).extract 5 (showS y m d).size).data.toList = dig2 m.toNat ++ [45] ++ dig2 d.toNat := by rw [ext_drop, hl2]; rfl
    have e1 : (dig2 m.toNat ++ [45] ++ dig2 d.toNat).take 2 = dig2 m.toNat := rfl
    have e2 : (dig2 m.toNat ++ [45] ++ dig2 d.toNat).drop 3 = dig2 d.toNat := rfl
    have e3 : ((showS y m d).extract 5 (showS y m d).size).size = 5 := by rw [bs_size, er]; rfl
    simp only [e0, er, e1, e2, n2, n3, n4]
    rw [if_pos ⟨e3, h, trivial⟩]
theorem prs_some {s : ByteArray} {y m d : Int} (h : prs s = some (y, m, d)) : mayB y m d = true ∧ showS y m d = s := by
  unfold prs at h
  have key : ∀ (r : ByteArray) (y' : Int), rest3 s r y' = some (y, m, d) → mayB y m d = true ∧ showS y m d = s := by
    intro r y' h
    unfold rest3 at h
    split at h
    · next c =>
      simp only [Option.some.injEq, Prod.mk.injEq] at h
      obtain ⟨rfl, rfl, rfl⟩ := h
      exact c.2
    · cases h
  split at h
  · exact key _ _ h
  · split at h
    · cases h
    · exact key _ _ h
theorem show_size {y m d : Int} (h : mayB y m d = true) : (showS y m d).size = if y = 0 then 7 else 10 := by
  have h0 := (may_iff.1 h).1
  unfold showS
  rw [if_pos h]
  by_cases hy : y = 0
  · rw [if_pos hy]; subst hy; rfl
  · rw [if_neg hy]
    have : y.toNat ≠ 0 := by omega
    show (showL y.toNat m.toNat d.toNat).toArray.size = 10
    unfold showL headL
    rw [if_neg this]; rfl
/-- The law's own box, and nothing that was has turned. -/
structure Bx1 (w0 wr : World) (B : Nat) (y m d : Int) : Prop where
  one : Blk wr B 23 #[.int .i64 y, .int .i64 m, .int .i64 d]
  bel : Below w0.heap.size w0 wr
  tab : Tab wr.heap.size wr
theorem Bx1.step {w0 wr w' : World} {B : Nat} {y m d : Int} (h : Bx1 w0 wr B y m d) (hb : Below wr.heap.size wr w') : Bx1 w0 w' B y m d := ⟨h.one.below hb h.one.lt, h.bel.trans (hb.mono h.bel.size), tab_on h.tab hb⟩
theorem Bx1.alloc {w0 wr : World} {B : Nat} {y m d : Int} (h : Bx1 w0 wr B y m d) (o : Obj) : Bx1 w0 (wr.alloc o) B y m d := h.step ((Below.refl _ _).alloc (Nat.le_refl _) _)
theorem Bx1.one3 {w0 wr : World} {B : Nat} {y m d : Int} (h : Bx1 w0 wr B y m d) : wr.cell? ⟨B, 0, none⟩ = some (.int .i64 y) ∧ wr.cell? ⟨B, 1, none⟩ = some (.int .i64 m) ∧ wr.cell? ⟨B, 2, none⟩ = some (.int .i64 d) := ⟨h.one.cell 0, h.one.cell 1, h.one.cell 2⟩
theorem Blk3.at' {w : World} {B : Nat} {y m d : Int} (h : Blk w B 23 #[.int .i64 y, .int .i64 m, .int .i64 d]) : w.cell? ⟨B, 0, none⟩ = some (.int .i64 y) ∧ w.cell? ⟨B, 1, none⟩ = some (.int .i64 m) ∧ w.cell? ⟨B, 2, none⟩ = some (.int .i64 d) := ⟨h.cell 0, h.cell 1, h.cell 2⟩
set_option maxHeartbeats 4000000 in
theorem bk_sm (w : World) (ht : Tab w.heap.size w) (y m d : Int) (s : ByteArray) (hs : s.size ≤ 60) (a b c : Int) (hp : prs s = some (a, b, c)) (hm : mayB y m d = true) :
    Calls Tryd.prog 4 #[.agg #[.int .i64 y, .int .i64 m, .int .i64 d], .string s] w fun e w' => e = .returned (.bool true) ∧ Below w.heap.size w w' := by
  have HX0 : Hid (Bx1 w (w.alloc (.cells #[.int .i64 y, .int .i64 m, .int .i64 d] 23)) w.heap.size y m d) := Lib.hid ⟨Blk.new _ _ _, (Below.refl _ _).alloc (Nat.le_refl _) _, tab_on ht ((Below.refl _ _).alloc (Nat.le_refl _) _)⟩
  have hs1 : ¬ (s.size : Int) > 60 := by omega
  have HSZ := Lib.hid hs
  clear ht hs
  have HP := Lib.hid hp
  have HMD := Lib.hid hm
  have HM := Lib.hid (prs_some hp).1
  have HS := Lib.hid (prs_some hp).2
  obtain ⟨T, hT⟩ : ∃ T, showS y m d = T := ⟨_, rfl⟩
  have HSD := Lib.hid hT
  have HZ := Lib.hid (show T.size = if y = 0 then 7 else 10 by rw [← hT]; exact show_size hm)
  have HTS := Lib.hid (show T.size ≤ 60 by rw [HZ.out]; split <;> omega)
  have HPT := Lib.hid (show prs T = some (y, m, d) by rw [← hT]; exact prs_show hm)
  clear hT
  clear hp hm
  go_enter Tryd.func4, Tryd.ntmps4
  go_wp2_with fail
  refine (first_any _ HX0.out.tab).mono ?_
  rintro _ w1 ⟨rfl, hb⟩
  have HX1 := Lib.hid (HX0.out.step hb)
  clear hb
  go_wp2_with fail
  refine (parse_any s HSZ.out _ HX1.out.tab).mono ?_
  rintro _ w2 ⟨rfl, hb⟩
  rw [HP.out]
  simp only [dateV, errV]
  have HX2 := Lib.hid (HX1.out.step hb)
  clear hb
  have HA := Lib.hid (HX2.out.alloc (.cells #[.int .i64 a, .int .i64 b, .int .i64 c] 23))
  have HB := Lib.hid (Blk.new w2 23 #[.int .i64 a, .int .i64 b, .int .i64 c])
  have HLT := Lib.hid (Blk.new w2 23 #[.int .i64 a, .int .i64 b, .int .i64 c]).lt
  go_wp2_with fail
  refine (may_any _ _ _ _).mono ?_
  rintro _ w3 ⟨rfl, hb⟩
  rw [HM.out]
  have HX3 := Lib.hid (HA.out.step hb)
  have HB3 := Lib.hid (HB.out.below hb HLT.out)
  obtain ⟨b0, b1, b2⟩ := Blk3.at' HB3.out
  clear hb
  go_wp2_with fail
  refine (show_any _ _ _ _ HX3.out.tab).mono ?_
  rintro _ w4 ⟨rfl, hb⟩
  rw [HS.out]
  have HX4 := Lib.hid (HX3.out.step hb)
  obtain ⟨a0, a1, a2⟩ := HX4.out.one3
  clear hb
  go_wp2_with fail
  refine (show_any _ _ _ _ HX4.out.tab).mono ?_
  rintro _ w5 ⟨rfl, hb⟩
  rw [HSD.out]
  have HX5 := Lib.hid (HX4.out.step hb)
  obtain ⟨a0, a1, a2⟩ := HX5.out.one3
  clear hb
  go_wp2_with fail
  refine (may_any _ _ _ _).mono ?_
  rintro _ w6 ⟨rfl, hb⟩
  rw [HMD.out]
  have HX6 := Lib.hid (HX5.out.step hb)
  clear hb
  go_wp2_with fail
  refine (parse_any T HTS.out _ HX6.out.tab).mono ?_
  rintro _ w7 ⟨rfl, hb⟩
  rw [HPT.out]
  simp only [dateV, errV]
  have HX7 := Lib.hid (HX6.out.step hb)
  have HX8 := Lib.hid (HX7.out.alloc (.cells #[.int .i64 y, .int .i64 m, .int .i64 d] 23))
  obtain ⟨a0, a1, a2⟩ := HX8.out.one3
  clear hb
  by_cases hy0 : y = 0
  · subst hy0
    have ht7 : T.size = 7 := by have := HZ.out; simpa using this
    go_wp2
    go_ret
    exact ⟨rfl, HX8.out.bel⟩
  · have ht10 : T.size = 10 := by have := HZ.out; rwa [if_neg hy0] at this
    have hy1 : (y != 0) = true := by simpa using hy0
    go_wp2
    go_ret
    exact ⟨rfl, HX8.out.bel⟩
set_option maxHeartbeats 4000000 in
theorem bk_sk (w : World) (ht : Tab w.heap.size w) (y m d : Int) (s : ByteArray) (hs : s.size ≤ 60) (a b c : Int) (hp : prs s = some (a, b, c)) (hm : mayB y m d = false) :
    Calls Tryd.prog 4 #[.agg #[.int .i64 y, .int .i64 m, .int .i64 d], .string s] w fun e w' => e = .returned (.bool true) ∧ Below w.heap.size w w' := by
  have HX0 : Hid (Bx1 w (w.alloc (.cells #[.int .i64 y, .int .i64 m, .int .i64 d] 23)) w.heap.size y m d) := Lib.hid ⟨Blk.new _ _ _, (Below.refl _ _).alloc (Nat.le_refl _) _, tab_on ht ((Below.refl _ _).alloc (Nat.le_refl _) _)⟩
  have hs1 : ¬ (s.size : Int) > 60 := by omega
  have HSZ := Lib.hid hs
  clear ht hs
  have HP := Lib.hid hp
  have HMD := Lib.hid hm
  have HM := Lib.hid (prs_some hp).1
  have HS := Lib.hid (prs_some hp).2
  have HSD := Lib.hid (show showS y m d = ⟨#[]⟩ by unfold showS; rw [hm]; rfl)
  clear hp hm
  go_enter Tryd.func4, Tryd.ntmps4
  go_wp2_with fail
  refine (first_any _ HX0.out.tab).mono ?_
  rintro _ w1 ⟨rfl, hb⟩
  have HX1 := Lib.hid (HX0.out.step hb)
  clear hb
  go_wp2_with fail
  refine (parse_any s HSZ.out _ HX1.out.tab).mono ?_
  rintro _ w2 ⟨rfl, hb⟩
  rw [HP.out]
  simp only [dateV, errV]
  have HX2 := Lib.hid (HX1.out.step hb)
  clear hb
  have HA := Lib.hid (HX2.out.alloc (.cells #[.int .i64 a, .int .i64 b, .int .i64 c] 23))
  have HB := Lib.hid (Blk.new w2 23 #[.int .i64 a, .int .i64 b, .int .i64 c])
  have HLT := Lib.hid (Blk.new w2 23 #[.int .i64 a, .int .i64 b, .int .i64 c]).lt
  go_wp2_with fail
  refine (may_any _ _ _ _).mono ?_
  rintro _ w3 ⟨rfl, hb⟩
  rw [HM.out]
  have HX3 := Lib.hid (HA.out.step hb)
  have HB3 := Lib.hid (HB.out.below hb HLT.out)
  obtain ⟨b0, b1, b2⟩ := Blk3.at' HB3.out
  clear hb
  go_wp2_with fail
  refine (show_any _ _ _ _ HX3.out.tab).mono ?_
  rintro _ w4 ⟨rfl, hb⟩
  rw [HS.out]
  have HX4 := Lib.hid (HX3.out.step hb)
  obtain ⟨a0, a1, a2⟩ := HX4.out.one3
  clear hb
  go_wp2_with fail
  refine (show_any _ _ _ _ HX4.out.tab).mono ?_
  rintro _ w5 ⟨rfl, hb⟩
  rw [HSD.out]
  have HX5 := Lib.hid (HX4.out.step hb)
  obtain ⟨a0, a1, a2⟩ := HX5.out.one3
  clear hb
  go_wp2_with fail
  refine (may_any _ _ _ _).mono ?_
  rintro _ w6 ⟨rfl, hb⟩
  rw [HMD.out]
  have HX6 := Lib.hid (HX5.out.step hb)
  clear hb
  go_wp2
  go_ret
  exact ⟨rfl, HX6.out.bel⟩
set_option maxHeartbeats 4000000 in
theorem bk_nm (w : World) (ht : Tab w.heap.size w) (y m d : Int) (s : ByteArray) (hs : s.size ≤ 60) (hp : prs s = none) (hm : mayB y m d = true) :
    Calls Tryd.prog 4 #[.agg #[.int .i64 y, .int .i64 m, .int .i64 d], .string s] w fun e w' => e = .returned (.bool true) ∧ Below w.heap.size w w' := by
  have HX0 : Hid (Bx1 w (w.alloc (.cells #[.int .i64 y, .int .i64 m, .int .i64 d] 23)) w.heap.size y m d) := Lib.hid ⟨Blk.new _ _ _, (Below.refl _ _).alloc (Nat.le_refl _) _, tab_on ht ((Below.refl _ _).alloc (Nat.le_refl _) _)⟩
  have hs1 : ¬ (s.size : Int) > 60 := by omega
  have HSZ := Lib.hid hs
  clear ht hs
  have HP := Lib.hid hp
  have HMD := Lib.hid hm
  obtain ⟨T, hT⟩ : ∃ T, showS y m d = T := ⟨_, rfl⟩
  have HSD := Lib.hid hT
  have HZ := Lib.hid (show T.size = if y = 0 then 7 else 10 by rw [← hT]; exact show_size hm)
  have HTS := Lib.hid (show T.size ≤ 60 by rw [HZ.out]; split <;> omega)
  have HPT := Lib.hid (show prs T = some (y, m, d) by rw [← hT]; exact prs_show hm)
  clear hT
  clear hp hm
  go_enter Tryd.func4, Tryd.ntmps4
  go_wp2_with fail
  refine (first_any _ HX0.out.tab).mono ?_
  rintro _ w1 ⟨rfl, hb⟩
  have HX1 := Lib.hid (HX0.out.step hb)
  clear hb
  go_wp2_with fail
  refine (parse_any s HSZ.out _ HX1.out.tab).mono ?_
  rintro _ w2 ⟨rfl, hb⟩
  rw [HP.out]
  simp only [dateV, errV]
  have HX2 := Lib.hid (HX1.out.step hb)
  clear hb
  have HX4 := Lib.hid (HX2.out.alloc (.cells #[.int .i64 0, .int .i64 0, .int .i64 0] 23))
  obtain ⟨a0, a1, a2⟩ := HX4.out.one3
  go_wp2_with fail
  refine (show_any _ _ _ _ HX4.out.tab).mono ?_
  rintro _ w5 ⟨rfl, hb⟩
  rw [HSD.out]
  have HX5 := Lib.hid (HX4.out.step hb)
  obtain ⟨a0, a1, a2⟩ := HX5.out.one3
  clear hb
  go_wp2_with fail
  refine (may_any _ _ _ _).mono ?_
  rintro _ w6 ⟨rfl, hb⟩
  rw [HMD.out]
  have HX6 := Lib.hid (HX5.out.step hb)
  clear hb
  go_wp2_with fail
  refine (parse_any T HTS.out _ HX6.out.tab).mono ?_
  rintro _ w7 ⟨rfl, hb⟩
  rw [HPT.out]
  simp only [dateV, errV]
  have HX7 := Lib.hid (HX6.out.step hb)
  have HX8 := Lib.hid (HX7.out.alloc (.cells #[.int .i64 y, .int .i64 m, .int .i64 d] 23))
  obtain ⟨a0, a1, a2⟩ := HX8.out.one3
  clear hb
  by_cases hy0 : y = 0
  · subst hy0
    have ht7 : T.size = 7 := by have := HZ.out; simpa using this
    go_wp2
    go_ret
    exact ⟨rfl, HX8.out.bel⟩
  · have ht10 : T.size = 10 := by have := HZ.out; rwa [if_neg hy0] at this
    have hy1 : (y != 0) = true := by simpa using hy0
    go_wp2
    go_ret
    exact ⟨rfl, HX8.out.bel⟩
set_option maxHeartbeats 4000000 in
theorem bk_nk (w : World) (ht : Tab w.heap.size w) (y m d : Int) (s : ByteArray) (hs : s.size ≤ 60) (hp : prs s = none) (hm : mayB y m d = false) :
    Calls Tryd.prog 4 #[.agg #[.int .i64 y, .int .i64 m, .int .i64 d], .string s] w fun e w' => e = .returned (.bool true) ∧ Below w.heap.size w w' := by
  have HX0 : Hid (Bx1 w (w.alloc (.cells #[.int .i64 y, .int .i64 m, .int .i64 d] 23)) w.heap.size y m d) := Lib.hid ⟨Blk.new _ _ _, (Below.refl _ _).alloc (Nat.le_refl _) _, tab_on ht ((Below.refl _ _).alloc (Nat.le_refl _) _)⟩
  have hs1 : ¬ (s.size : Int) > 60 := by omega
  have HSZ := Lib.hid hs
  clear ht hs
  have HP := Lib.hid hp
  have HMD := Lib.hid hm
  have HSD := Lib.hid (show showS y m d = ⟨#[]⟩ by unfold showS; rw [hm]; rfl)
  clear hp hm
  go_enter Tryd.func4, Tryd.ntmps4
  go_wp2_with fail
  refine (first_any _ HX0.out.tab).mono ?_
  rintro _ w1 ⟨rfl, hb⟩
  have HX1 := Lib.hid (HX0.out.step hb)
  clear hb
  go_wp2_with fail
  refine (parse_any s HSZ.out _ HX1.out.tab).mono ?_
  rintro _ w2 ⟨rfl, hb⟩
  rw [HP.out]
  simp only [dateV, errV]
  have HX2 := Lib.hid (HX1.out.step hb)
  clear hb
  have HX4 := Lib.hid (HX2.out.alloc (.cells #[.int .i64 0, .int .i64 0, .int .i64 0] 23))
  obtain ⟨a0, a1, a2⟩ := HX4.out.one3
  go_wp2_with fail
  refine (show_any _ _ _ _ HX4.out.tab).mono ?_
  rintro _ w5 ⟨rfl, hb⟩
  rw [HSD.out]
  have HX5 := Lib.hid (HX4.out.step hb)
  obtain ⟨a0, a1, a2⟩ := HX5.out.one3
  clear hb
  go_wp2_with fail
  refine (may_any _ _ _ _).mono ?_
  rintro _ w6 ⟨rfl, hb⟩
  rw [HMD.out]
  have HX6 := Lib.hid (HX5.out.step hb)
  clear hb
  go_wp2
  go_ret
  exact ⟨rfl, HX6.out.bel⟩
set_option maxHeartbeats 1000000 in
theorem bk_big (w : World) (ht : Tab w.heap.size w) (y m d : Int) (s : ByteArray) (hs : 60 < s.size) :
    Calls Tryd.prog 4 #[.agg #[.int .i64 y, .int .i64 m, .int .i64 d], .string s] w fun e w' => e = .returned (.bool true) ∧ Below w.heap.size w w' := by
  have HX0 : Hid (Bx1 w (w.alloc (.cells #[.int .i64 y, .int .i64 m, .int .i64 d] 23)) w.heap.size y m d) := Lib.hid ⟨Blk.new _ _ _, (Below.refl _ _).alloc (Nat.le_refl _) _, tab_on ht ((Below.refl _ _).alloc (Nat.le_refl _) _)⟩
  have hs1 : (s.size : Int) > 60 := by omega
  clear ht hs
  go_enter Tryd.func4, Tryd.ntmps4
  go_wp2_with fail
  refine (first_any _ HX0.out.tab).mono ?_
  rintro _ w1 ⟨rfl, hb⟩
  have HX1 := Lib.hid (HX0.out.step hb)
  clear hb
  go_wp2_with fail
  refine (first_any _ HX1.out.tab).mono ?_
  rintro _ w2 ⟨rfl, hb⟩
  have HX2 := Lib.hid (HX1.out.step hb)
  clear hb
  go_wp2
  go_ret
  exact ⟨rfl, HX2.out.bel⟩
theorem dayBack_walk (w : World) (ht : Tab w.heap.size w) (a0 : Int) (w0 : (Lit.int .i64 a0).wf = true) (a1 : Int) (w1 : (Lit.int .i64 a1).wf = true) (a2 : Int) (w2 : (Lit.int .i64 a2).wf = true) (a3 : ByteArray) (w3 : a3.size ≤ maxLen) :
    Calls Tryd.prog 4 #[.agg #[.int .i64 a0, .int .i64 a1, .int .i64 a2], .string a3] w fun e w' => e = .returned (.bool true) ∧ Below w.heap.size w w' := by
  by_cases hs : a3.size ≤ 60
  · cases hm : mayB a0 a1 a2 <;> rcases hp : prs a3 with _ | ⟨a, b, c⟩
    · exact bk_nk w ht _ _ _ a3 hs hp hm
    · exact bk_sk w ht _ _ _ a3 hs a b c hp hm
    · exact bk_nm w ht _ _ _ a3 hs hp hm
    · exact bk_sm w ht _ _ _ a3 hs a b c hp hm
  · exact bk_big w ht _ _ _ a3 (by omega)
end Go.Proofs.YtelkbodhipfjaaaDoor
