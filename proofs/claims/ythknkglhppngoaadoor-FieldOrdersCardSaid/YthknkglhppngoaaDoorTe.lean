/- Telephone numbers: digits, Is, bare, Canon, row. -/
import Derived.Test.YthknkglhppngoaaDoorTm
import Derived.Test.YthknkglhppngoaaDoorSq
namespace Go.Proofs.YthknkglhppngoaaDoor
open Go.RowKit
open Go.Lib hiding intOf
set_option linter.unusedVariables false
set_option maxRecDepth 20000
theorem digits_any (s : ByteArray) (w : World) : Calls Tryd.prog 42 #[.string s] w fun e w' => e = .returned (.string ⟨(dgsL s.data.toList).toArray⟩) ∧ w' = w := by
  have H := Lib.hid (fun w => Tryd.strings_TrimPrefix s ⟨#[43]⟩ w)
  have HD := Lib.hid (show dgsL s.data.toList = trimPrefix s.data.toList [43] from rfl)
  rw [HD.out]
  go_enter Tryd.func42, Tryd.ntmps42
  go_wp2_with (go_at_call 53; refine (H.out _).mono ?_; rintro e w1 ⟨rfl, hw⟩; replace hw := hw.symm; subst hw)
  go_ret
  exact ⟨rfl, rfl⟩
theorem all_take_snoc (d : ByteArray) (k : Nat) (hk : k < d.size) : (d.data.toList.take (k + 1)).all isDig = ((d.data.toList.take k).all isDig && isDig d[k]) := by
  rw [List.take_succ_eq_append_getElem (by simpa using hk), List.all_append]
  simp
  rfl
theorem all_miss (d : ByteArray) (k : Nat) (hk : k < d.size) (h : isDig d[k] = false) : d.data.toList.all isDig = false := by
  rw [List.all_eq_false]
  refine ⟨d[k], ?_, by rw [h]; simp⟩
  have : d.data.toList[k]'(by simpa using hk) ∈ d.data.toList := List.getElem_mem _
  exact this
set_option maxHeartbeats 4000000 in
theorem is_any (s : ByteArray) (hs : s.size ≤ 1000000) (w : World) : Calls Tryd.prog 24 #[.string s] w fun e w' => e = .returned (.bool (telB s.data.toList)) ∧ w' = w := by
  have HD0 := digits_any s
  have hr : telB s.data.toList = (decide (3 ≤ ((dgsL s.data.toList).length : Int)) && decide (((dgsL s.data.toList).length : Int) ≤ 15) && (dgsL s.data.toList).all isDig) := rfl
  have hle : (dgsL s.data.toList).length ≤ s.size := by have := trimPrefix_le s.data.toList [43]; simpa [dgsL] using this
  obtain ⟨d, hd⟩ : ∃ d : ByteArray, (⟨(dgsL s.data.toList).toArray⟩ : ByteArray) = d := ⟨_, rfl⟩
  have hdl : d.data.toList = dgsL s.data.toList := by rw [← hd]
  have hds : (dgsL s.data.toList).length = d.size := by rw [← hdl]; simp
  rw [hd] at HD0
  rw [hds] at hr hle
  rw [← hdl] at hr
  obtain ⟨r, hrr⟩ : ∃ r, telB s.data.toList = r := ⟨_, rfl⟩
  rw [hrr] at hr ⊢
  have HD := Lib.hid HD0
  have HR := Lib.hid hr
  have hdI : (d.size : Int) ≤ 1000000 := by omega
  clear HD0 hr hrr hds hdl hd hle
  by_cases h3 : (d.size : Int) < 3
  · have H0 := Lib.hid (show r = false by rw [HR.out, decide_eq_false (by omega)]; rfl)
    go_enter Tryd.func24, Tryd.ntmps24
    go_wp2_with (go_at_call 42; refine (HD.out _).mono ?_; rintro e w1 ⟨rfl, hw⟩; replace hw := hw.symm; subst hw)
    go_ret
    exact ⟨by rw [H0.out]; rfl, rfl⟩
  · by_cases h15 : (d.size : Int) > 15
    · have H0 := Lib.hid (show r = false by rw [HR.out, decide_eq_false (show ¬ (d.size : Int) ≤ 15 by omega)]; simp)
      go_enter Tryd.func24, Tryd.ntmps24
      go_wp2_with (go_at_call 42; refine (HD.out _).mono ?_; rintro e w1 ⟨rfl, hw⟩; replace hw := hw.symm; subst hw)
      go_ret
      exact ⟨by rw [H0.out]; rfl, rfl⟩
    · have HR2 := Lib.hid (show r = d.data.toList.all isDig by rw [HR.out, decide_eq_true (by omega), decide_eq_true (by omega)]; rfl)
      clear HR
      go_enter Tryd.func24, Tryd.ntmps24
      go_wp2_with (go_at_call 42; refine (HD.out _).mono ?_; rintro e w1 ⟨rfl, hw⟩; replace hw := hw.symm; subst hw)
      go_loop [17] (fun i => ∃ k : Nat, k ≤ d.size ∧ i = .int .i64 (k : Int) ∧ (d.data.toList.take k).all isDig = true) (fun i => d.size - (intOf i).toNat)
      case atStart => exact ⟨0, Nat.zero_le _, rfl, by simp⟩
      case round =>
        obtain ⟨k, hk, rfl, hno⟩ := hrel
        have HN := Lib.hid hno
        clear hno
        by_cases hlt : k < d.size
        · have HT := Lib.hid (all_take_snoc d k hlt)
          have HM := Lib.hid (all_miss d k hlt)
          obtain ⟨c, hc⟩ : ∃ c, d[k] = c := ⟨_, rfl⟩
          rw [hc] at HT HM
          have hc8 : (c.toNat : Int) ≤ 255 := by have := c.toNat_lt; omega
          by_cases u1 : (c.toNat : Int) < 48
          · have H0 := Lib.hid (show r = false by rw [HR2.out]; exact HM.out (by unfold isDig; rw [decide_eq_false (by omega)]; rfl))
            go_wp2
            go_ret
            exact ⟨by rw [H0.out]; rfl, rfl⟩
          · have u1' : decide ((c.toNat : Int) < 48) = false := by simpa using u1
            by_cases u2 : (c.toNat : Int) > 57
            · have H0 := Lib.hid (show r = false by rw [HR2.out]; exact HM.out (by unfold isDig; rw [decide_eq_false (show ¬ (c.toNat : Int) ≤ 57 by omega)]; simp))
              go_wp2
              go_ret
              exact ⟨by rw [H0.out]; rfl, rfl⟩
            · have u2' : decide ((c.toNat : Int) > 57) = false := by simpa using u2
              have HE := Lib.hid (show (d.data.toList.take (k + 1)).all isDig = true by
                rw [HT.out, HN.out]; unfold isDig; rw [decide_eq_true (by omega), decide_eq_true (by omega)]; rfl)
              go_wp2
              exact ⟨⟨k + 1, by omega, by go_num, HE.out⟩, by simp [intOf]; omega⟩
        · have hks : k = d.size := by omega
          subst hks
          have H0 := Lib.hid (show r = true by rw [HR2.out, ← HN.out, List.take_of_length_le (by simp)])
          go_wp2
          go_ret
          exact ⟨by rw [H0.out]; rfl, rfl⟩
theorem betw_index (c : UInt8) : (betw c = true ∧ (∃ j : Int, 0 ≤ j ∧ indexByte [32, 45, 46, 47, 40, 41] c = j)) ∨ (betw c = false ∧ indexByte [32, 45, 46, 47, 40, 41] c = -1) := by
  cases h : betw c with
  | true =>
    refine .inl ⟨rfl, _, ?_, rfl⟩
    unfold betw at h
    simp only [Bool.or_eq_true, beq_iff_eq] at h
    rcases h with ((((h | h) | h) | h) | h) | h <;> subst h <;> decide
  | false =>
    refine .inr ⟨rfl, ?_⟩
    unfold betw at h
    simp only [Bool.or_eq_false_iff, beq_eq_false_iff_ne] at h
    obtain ⟨⟨⟨⟨⟨h1, h2⟩, h3⟩, h4⟩, h5⟩, h6⟩ := h
    simp only [indexByte, beq_iff_eq, h1.symm, h2.symm, h3.symm, h4.symm, h5.symm, h6.symm, if_false, if_true]
theorem bare_snoc (s : ByteArray) (k : Nat) (hk : k < s.size) : bareL (s.data.toList.take (k + 1)) = bareL (s.data.toList.take k) ++ bareL [s[k]] := by
  rw [List.take_succ_eq_append_getElem (by simpa using hk), bare_app]; rfl
theorem bare_le (l : List UInt8) : (bareL l).length ≤ l.length := List.length_filter_le _ _
set_option maxHeartbeats 4000000 in
theorem bare_any (s : ByteArray) (hs : s.size ≤ 1000000) (w : World) : Calls Tryd.prog 23 #[.string s] w fun e w' => e = .returned (.string ⟨(bareL s.data.toList).toArray⟩) ∧ Below w.heap.size w w' := by
  obtain ⟨B, hB⟩ : ∃ B, w.heap.size = B := ⟨_, rfl⟩
  obtain ⟨r, hr⟩ : ∃ r : ByteArray, (⟨(bareL s.data.toList).toArray⟩ : ByteArray) = r := ⟨_, rfl⟩
  have HP := Lib.hid hr.symm
  rw [hr]
  clear hr
  have HIB := Lib.hid (fun (c : UInt8) w => Tryd.strings_IndexByte ⟨#[32, 45, 46, 47, 40, 41]⟩ (c.toNat : Int) w)
  have HF := Lib.hid (Lib.fresh_isBuilder 60 5 w)
  have HB0 := Lib.hid ((Below.refl w.heap.size w).alloc (Nat.le_refl _) (.cells #[.pointer none, .slice none 0 0] 60))
  rw [hB] at HF HB0
  go_enter Tryd.func23, Tryd.ntmps23
  go_wp2
  obtain ⟨W1, hW1⟩ : ∃ W1, w.alloc (.cells #[.pointer none, .slice none 0 0] 60) = W1 := ⟨_, rfl⟩
  simp only [hW1] at HF HB0 ⊢
  clear hW1
  go_loopw [7] (fun i wr => ∃ k : Nat, k ≤ s.size ∧ i = .int .i64 (k : Int) ∧ Lib.IsBuilder 60 5 B B (Lib.byteCells (bareL (s.data.toList.take k))) wr ∧ Below B w wr) (fun i _ => s.size - (intOf i).toNat)
  case atStart => exact ⟨0, Nat.zero_le _, rfl, HF.out, HB0.out⟩
  case round =>
    obtain ⟨k, hk, rfl, hi, hb⟩ := hrel
    have HI := Lib.hid hi
    have HBB := Lib.hid hb
    have HBs := Lib.hid (show B ≤ wr.heap.size by have := hb.size; omega)
    have HLk := Lib.hid (show (bareL (s.data.toList.take k)).length ≤ 1000000 by have h1 := bare_le (s.data.toList.take k); rw [List.length_take] at h1; omega)
    clear hi hb
    by_cases hlt : k < s.size
    · have HSN := Lib.hid (bare_snoc s k hlt)
      obtain ⟨c, hc⟩ : ∃ c, s[k] = c := ⟨_, rfl⟩
      rw [hc] at HSN
      have hc8 : (c.toNat : Int) ≤ 255 := by have := c.toNat_lt; omega
      have hi1 := HIB.out c
      have e8 : (c.toNat : Int).toNat.toUInt8 = c := by simp
      rw [e8] at hi1
      obtain ⟨o, ho⟩ : ∃ o, bareL (s.data.toList.take k) = o := ⟨_, rfl⟩
      rw [ho] at HI HSN HLk
      clear ho e8
      rcases betw_index c with ⟨b1, j, hj, b2⟩ | ⟨b1, b2⟩
      · rw [b2] at hi1
        have HI1 := Lib.hid hi1
        have HE := Lib.hid (show bareL (s.data.toList.take (k + 1)) = o by rw [HSN.out, show bareL [c] = [] by simp [bareL, b1], List.append_nil])
        have hj' : ¬ j < 0 := by omega
        clear hi1 b2 b1
        go_wp2_with (go_at_call 39; refine (HI1.out _).mono ?_; rintro e w1 ⟨rfl, hw⟩; replace hw := hw.symm; subst hw)
        exact ⟨⟨k + 1, by omega, by go_num, by rw [HE.out]; exact HI.out, HBB.out⟩, by simp [intOf]; omega⟩
      · rw [b2] at hi1
        have HI1 := Lib.hid hi1
        have HE := Lib.hid (show bareL (s.data.toList.take (k + 1)) = o ++ [c] by rw [HSN.out, show bareL [c] = [c] by simp [bareL, b1]])
        clear hi1 b2 b1
        go_wp2_with (go_at_call 39; refine (HI1.out _).mono ?_; rintro e w1 ⟨rfl, hw⟩; replace hw := hw.symm; subst hw)
        go_wp2_with (go_at_call 40; refine (put_any B B _ _ _ HI.out (by rw [bc_len]; have := HLk.out; omega) HBs.out).mono ?_)
        rintro e w2 ⟨rfl, h1, h2⟩
        have HI2 := Lib.hid (show Lib.IsBuilder 60 5 B B (Lib.byteCells (o ++ [c])) w2 by rw [bc_app]; exact h1)
        have HB2 := Lib.hid (HBB.out.trans h2)
        clear h1 h2
        go_wp2
        exact ⟨⟨k + 1, by omega, by go_num, by rw [HE.out]; exact HI2.out, HB2.out⟩, by simp [intOf]; omega⟩
    · have hks : k = s.size := by omega
      subst hks
      have HP2 := Lib.hid (show r = ⟨(bareL (s.data.toList.take s.size)).toArray⟩ by rw [HP.out, List.take_of_length_le (by simp)])
      obtain ⟨o, ho⟩ : ∃ o, bareL (s.data.toList.take s.size) = o := ⟨_, rfl⟩
      rw [ho] at HI HP2
      clear ho
      go_wp2_with (go_at_call 41; refine (Tryd.Builder_String_any B B _ _ HI.out HBs.out).mono ?_)
      rintro e w2 ⟨rfl, h2⟩
      have HB2 := Lib.hid (HBB.out.trans h2)
      clear h2
      go_wp2
      go_ret
      exact ⟨by rw [HP2.out]; rfl, (by rw [hB]; exact HB2.out)⟩
set_option maxHeartbeats 2000000 in
theorem tcanon_any (s : ByteArray) (hs : s.size ≤ 1000000) (w : World) (hT : Tabs w) : Calls Tryd.prog 18 #[.string s] w fun e w' => e = .returned (.tuple #[.string (telS s).1, .int .i64 (telS s).2]) ∧ Below w.heap.size w w' := by
  have hC := clean_any s hs w hT
  have htz : ((cleanS s).1.size : Int) ≤ 1000000 := by
    unfold cleanS cleanOf
    have h1 := sq_len s.data.toList
    have h2 : (squeezeS s).size ≤ 1000000 := by rw [squeezeS_sq]; show (sq s.data.toList).toArray.size ≤ _; simp at h1 ⊢; omega
    repeat' split
    all_goals first | (show (((squeezeS s).size : Nat) : Int) ≤ 1000000; omega) | (show ((0 : Nat) : Int) ≤ 1000000; omega)
  obtain ⟨r, hr⟩ : ∃ r, telS s = r := ⟨_, rfl⟩
  rw [hr]
  have hrr : r = telOf (cleanS s).1 (cleanS s).2 := by rw [← hr]; rfl
  clear hr
  obtain ⟨⟨t, k⟩, ht⟩ : ∃ t, cleanS s = t := ⟨_, rfl⟩
  rw [ht] at hC htz hrr
  simp only at hC htz hrr
  have HC := Lib.hid hC
  have HR := Lib.hid hrr
  have HBa := Lib.hid (bare_any t (by omega))
  have HIs := Lib.hid (fun w => is_any ⟨(bareL t.data.toList).toArray⟩ (by have := bare_le t.data.toList; show (bareL t.data.toList).toArray.size ≤ _; simp at this ⊢; omega) w)
  clear hC ht hrr
  obtain ⟨u, hu⟩ : ∃ u, bareL t.data.toList = u := ⟨_, rfl⟩
  have HIu := HIs.out
  unfold telOf at HR
  rw [hu] at HBa HIu HR
  rw [tbs_list] at HIu
  obtain ⟨U, hU⟩ : ∃ U : ByteArray, (⟨u.toArray⟩ : ByteArray) = U := ⟨_, rfl⟩
  rw [hU] at HBa HIu HR
  have HI2 := Lib.hid HIu
  clear HIs HIu hu hU
  by_cases hk : k = 0
  · subst hk
    cases hb : telB u with
    | true =>
      rw [hb] at HI2
      have H0 := Lib.hid (show r = (U, 0) by rw [HR.out, if_pos rfl, if_pos hb])
      go_enter Tryd.func18, Tryd.ntmps18
      go_wp2_with (go_at_call 20; refine (HC.out).mono ?_)
      rintro e w1 rfl h1
      have HB1 := Lib.hid h1
      clear h1
      go_wp2_with (go_at_call 23; refine (HBa.out _).mono ?_)
      rintro e w2 ⟨rfl, h2⟩
      have HB2 := Lib.hid (HB1.out.trans (h2.mono HB1.out.size))
      clear h2
      go_wp2_with (go_at_call 24; refine (HI2.out _).mono ?_; rintro e w3 ⟨rfl, hw⟩; replace hw := hw.symm; subst hw)
      go_ret2
      exact ⟨by rw [H0.out]; rfl, HB2.out⟩
    | false =>
      rw [hb] at HI2
      have H0 := Lib.hid (show r = (⟨#[]⟩, 1) by rw [HR.out, if_pos rfl, if_neg (by rw [hb]; decide)])
      go_enter Tryd.func18, Tryd.ntmps18
      go_wp2_with (go_at_call 20; refine (HC.out).mono ?_)
      rintro e w1 rfl h1
      have HB1 := Lib.hid h1
      clear h1
      go_wp2_with (go_at_call 23; refine (HBa.out _).mono ?_)
      rintro e w2 ⟨rfl, h2⟩
      have HB2 := Lib.hid (HB1.out.trans (h2.mono HB1.out.size))
      clear h2
      go_wp2_with (go_at_call 24; refine (HI2.out _).mono ?_; rintro e w3 ⟨rfl, hw⟩; replace hw := hw.symm; subst hw)
      go_ret2
      exact ⟨by rw [H0.out]; rfl, HB2.out⟩
  · have hk' : (k != 0) = true := by simpa using hk
    have H0 := Lib.hid (show r = (⟨#[]⟩, k) by rw [HR.out, if_neg hk])
    clear hk
    go_enter Tryd.func18, Tryd.ntmps18
    go_wp2_with (go_at_call 20; refine (HC.out).mono ?_)
    rintro e w1 ⟨rfl, h1⟩
    have HB1 := Lib.hid h1
    clear h1
    go_wp2
    go_ret2
    exact ⟨by rw [H0.out]; rfl, HB1.out⟩
end Go.Proofs.YthknkglhppngoaaDoor
