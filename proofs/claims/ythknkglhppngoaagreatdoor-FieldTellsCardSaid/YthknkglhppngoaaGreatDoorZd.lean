/- Addresses: labels, domains, local parts. -/
import Derived.Test.YthknkglhppngoaaGreatDoorZc
import Derived.Test.YthknkglhppngoaaGreatDoorZa
import Derived.Lib.IndexMore
import Derived.Lib.IndexLaws
import Derived.Lib.CountLaws
import Derived.Lib.CutLaws
import Derived.Lib.SplitLaws
import Derived.Lib.LastIndexByte
/- Telephone numbers: digits, Is, bare, Canon, row. -/
namespace Go.Proofs.YthknkglhppngoaaGreatDoor
open Go.RowKit
open Go.Lib hiding intOf
set_option linter.unusedVariables false
set_option maxRecDepth 20000
theorem digits_any (s : ByteArray) (w : World) : Calls Tryz.prog 58 #[.string s] w fun e w' => e = .returned (.string ⟨(dgsL s.data.toList).toArray⟩) ∧ w' = w := by
  have H := Lib.hid (fun w => Tryz.strings_TrimPrefix s ⟨#[43]⟩ w)
  have HD := Lib.hid (show dgsL s.data.toList = trimPrefix s.data.toList [43] from rfl)
  rw [HD.out]
  go_enter Tryz.func58, Tryz.ntmps58
  go_wp2_with (go_at_call 74; refine (H.out _).mono ?_; rintro e w1 ⟨rfl, hw⟩; replace hw := hw.symm; subst hw)
  go_ret
  exact ⟨rfl, rfl⟩
theorem all_take_snoc (d : ByteArray) (k : Nat) (hk : k < d.size) : (d.data.toList.take (k + 1)).all isDig = ((d.data.toList.take k).all isDig && isDig d[k]) := by
  rw [List.take_succ_eq_append_getElem (by simpa using hk), List.all_append]
  simp
  rfl
theorem all_miss (d : ByteArray) (k : Nat) (hk : k < d.size) (h : isDig d[k] = false) : d.data.toList.all isDig = false := by
  rw [List.all_eq_false]
  refine ⟨d[k], ?_, by rw [h]; simp⟩
  have : d.data.toList[k]'(by simpa using hk) ∈ d.data.toList := List.getElem_mem _
  exact this
set_option maxHeartbeats 4000000 in
theorem is_any (s : ByteArray) (hs : s.size ≤ 1000000) (w : World) : Calls Tryz.prog 38 #[.string s] w fun e w' => e = .returned (.bool (telB s.data.toList)) ∧ w' = w := by
  have HD0 := digits_any s
  have hr : telB s.data.toList = (decide (3 ≤ ((dgsL s.data.toList).length : Int)) && decide (((dgsL s.data.toList).length : Int) ≤ 15) && (dgsL s.data.toList).all isDig) := rfl
  have hle : (dgsL s.data.toList).length ≤ s.size := by have := trimPrefix_le s.data.toList [43]; simpa [dgsL] using this
  obtain ⟨d, hd⟩ : ∃ d : ByteArray, (⟨(dgsL s.data.toList).toArray⟩ : ByteArray) = d := ⟨_, rfl⟩
  have hdl : d.data.toList = dgsL s.data.toList := by rw [← hd]
  have hds : (dgsL s.data.toList).length = d.size := by rw [← hdl]; simp
  rw [hd] at HD0
  rw [hds] at hr hle
  rw [← hdl] at hr
  obtain ⟨r, hrr⟩ : ∃ r, telB s.data.toList = r := ⟨_, rfl⟩
  rw [hrr] at hr ⊢
  have HD := Lib.hid HD0
  have HR := Lib.hid hr
  have hdI : (d.size : Int) ≤ 1000000 := by omega
  clear HD0 hr hrr hds hdl hd hle
  by_cases h3 : (d.size : Int) < 3
  · have H0 := Lib.hid (show r = false by rw [HR.out, decide_eq_false (by omega)]; rfl)
    go_enter Tryz.func38, Tryz.ntmps38
    go_wp2_with (go_at_call 58; refine (HD.out _).mono ?_; rintro e w1 ⟨rfl, hw⟩; replace hw := hw.symm; subst hw)
    go_ret
    exact ⟨by rw [H0.out]; rfl, rfl⟩
  · by_cases h15 : (d.size : Int) > 15
    · have H0 := Lib.hid (show r = false by rw [HR.out, decide_eq_false (show ¬ (d.size : Int) ≤ 15 by omega)]; simp)
      go_enter Tryz.func38, Tryz.ntmps38
      go_wp2_with (go_at_call 58; refine (HD.out _).mono ?_; rintro e w1 ⟨rfl, hw⟩; replace hw := hw.symm; subst hw)
      go_ret
      exact ⟨by rw [H0.out]; rfl, rfl⟩
    · have HR2 := Lib.hid (show r = d.data.toList.all isDig by rw [HR.out, decide_eq_true (by omega), decide_eq_true (by omega)]; rfl)
      clear HR
      go_enter Tryz.func38, Tryz.ntmps38
      go_wp2_with (go_at_call 58; refine (HD.out _).mono ?_; rintro e w1 ⟨rfl, hw⟩; replace hw := hw.symm; subst hw)
      go_loop [17] (fun i => ∃ k : Nat, k ≤ d.size ∧ i = .int .i64 (k : Int) ∧ (d.data.toList.take k).all isDig = true) (fun i => d.size - (intOf i).toNat)
      case atStart => exact ⟨0, Nat.zero_le _, rfl, by simp⟩
      case round =>
        obtain ⟨k, hk, rfl, hno⟩ := hrel
        have HN := Lib.hid hno
        clear hno
        by_cases hlt : k < d.size
        · have HT := Lib.hid (all_take_snoc d k hlt)
          have HM := Lib.hid (all_miss d k hlt)
          obtain ⟨c, hc⟩ : ∃ c, d[k] = c := ⟨_, rfl⟩
          rw [hc] at HT HM
          have hc8 : (c.toNat : Int) ≤ 255 := by have := c.toNat_lt; omega
          by_cases u1 : (c.toNat : Int) < 48
          · have H0 := Lib.hid (show r = false by rw [HR2.out]; exact HM.out (by unfold isDig; rw [decide_eq_false (by omega)]; rfl))
            go_wp2
            go_ret
            exact ⟨by rw [H0.out]; rfl, rfl⟩
          · have u1' : decide ((c.toNat : Int) < 48) = false := by simpa using u1
            by_cases u2 : (c.toNat : Int) > 57
            · have H0 := Lib.hid (show r = false by rw [HR2.out]; exact HM.out (by unfold isDig; rw [decide_eq_false (show ¬ (c.toNat : Int) ≤ 57 by omega)]; simp))
              go_wp2
              go_ret
              exact ⟨by rw [H0.out]; rfl, rfl⟩
            · have u2' : decide ((c.toNat : Int) > 57) = false := by simpa using u2
              have HE := Lib.hid (show (d.data.toList.take (k + 1)).all isDig = true by
                rw [HT.out, HN.out]; unfold isDig; rw [decide_eq_true (by omega), decide_eq_true (by omega)]; rfl)
              go_wp2
              exact ⟨⟨k + 1, by omega, by go_num, HE.out⟩, by simp [intOf]; omega⟩
        · have hks : k = d.size := by omega
          subst hks
          have H0 := Lib.hid (show r = true by rw [HR2.out, ← HN.out, List.take_of_length_le (by simp)])
          go_wp2
          go_ret
          exact ⟨by rw [H0.out]; rfl, rfl⟩
theorem betw_index (c : UInt8) : (betw c = true ∧ (∃ j : Int, 0 ≤ j ∧ indexByte [32, 45, 46, 47, 40, 41] c = j)) ∨ (betw c = false ∧ indexByte [32, 45, 46, 47, 40, 41] c = -1) := by
  cases h : betw c with
  | true =>
    refine .inl ⟨rfl, _, ?_, rfl⟩
    unfold betw at h
    simp only [Bool.or_eq_true, beq_iff_eq] at h
    rcases h with ((((h | h) | h) | h) | h) | h <;> subst h <;> decide
  | false =>
    refine .inr ⟨rfl, ?_⟩
    unfold betw at h
    simp only [Bool.or_eq_false_iff, beq_eq_false_iff_ne] at h
    obtain ⟨⟨⟨⟨⟨h1, h2⟩, h3⟩, h4⟩, h5⟩, h6⟩ := h
    simp only [indexByte, beq_iff_eq, h1.symm, h2.symm, h3.symm, h4.symm, h5.symm, h6.symm, if_false, if_true]
theorem bare_snoc (s : ByteArray) (k : Nat) (hk : k < s.size) : bareL (s.data.toList.take (k + 1)) = bareL (s.data.toList.take k) ++ bareL [s[k]] := by
  rw [List.take_succ_eq_append_getElem (by simpa using hk), bare_app]; rfl
theorem bare_le (l : List UInt8) : (bareL l).length ≤ l.length := List.length_filter_le _ _
set_option maxHeartbeats 4000000 in
theorem bare_any (s : ByteArray) (hs : s.size ≤ 1000000) (w : World) : Calls Tryz.prog 37 #[.string s] w fun e w' => e = .returned (.string ⟨(bareL s.data.toList).toArray⟩) ∧ Below w.heap.size w w' := by
  obtain ⟨B, hB⟩ : ∃ B, w.heap.size = B := ⟨_, rfl⟩
  obtain ⟨r, hr⟩ : ∃ r : ByteArray, (⟨(bareL s.data.toList).toArray⟩ : ByteArray) = r := ⟨_, rfl⟩
  have HP := Lib.hid hr.symm
  rw [hr]
  clear hr
  have HIB := Lib.hid (fun (c : UInt8) w => Tryz.strings_IndexByte ⟨#[32, 45, 46, 47, 40, 41]⟩ (c.toNat : Int) w)
  have HF := Lib.hid (Lib.fresh_isBuilder 63 5 w)
  have HB0 := Lib.hid ((Below.refl w.heap.size w).alloc (Nat.le_refl _) (.cells #[.pointer none, .slice none 0 0] 63))
  rw [hB] at HF HB0
  go_enter Tryz.func37, Tryz.ntmps37
  go_wp2
  obtain ⟨W1, hW1⟩ : ∃ W1, w.alloc (.cells #[.pointer none, .slice none 0 0] 63) = W1 := ⟨_, rfl⟩
  simp only [hW1] at HF HB0 ⊢
  clear hW1
  go_loopw [7] (fun i wr => ∃ k : Nat, k ≤ s.size ∧ i = .int .i64 (k : Int) ∧ Lib.IsBuilder 63 5 B B (Lib.byteCells (bareL (s.data.toList.take k))) wr ∧ Below B w wr) (fun i _ => s.size - (intOf i).toNat)
  case atStart => exact ⟨0, Nat.zero_le _, rfl, HF.out, HB0.out⟩
  case round =>
    obtain ⟨k, hk, rfl, hi, hb⟩ := hrel
    have HI := Lib.hid hi
    have HBB := Lib.hid hb
    have HBs := Lib.hid (show B ≤ wr.heap.size by have := hb.size; omega)
    have HLk := Lib.hid (show (bareL (s.data.toList.take k)).length ≤ 1000000 by have h1 := bare_le (s.data.toList.take k); rw [List.length_take] at h1; omega)
    clear hi hb
    by_cases hlt : k < s.size
    · have HSN := Lib.hid (bare_snoc s k hlt)
      obtain ⟨c, hc⟩ : ∃ c, s[k] = c := ⟨_, rfl⟩
      rw [hc] at HSN
      have hc8 : (c.toNat : Int) ≤ 255 := by have := c.toNat_lt; omega
      have hi1 := HIB.out c
      have e8 : (c.toNat : Int).toNat.toUInt8 = c := by simp
      rw [e8] at hi1
      obtain ⟨o, ho⟩ : ∃ o, bareL (s.data.toList.take k) = o := ⟨_, rfl⟩
      rw [ho] at HI HSN HLk
      clear ho e8
      rcases betw_index c with ⟨b1, j, hj, b2⟩ | ⟨b1, b2⟩
      · rw [b2] at hi1
        have HI1 := Lib.hid hi1
        have HE := Lib.hid (show bareL (s.data.toList.take (k + 1)) = o by rw [HSN.out, show bareL [c] = [] by simp [bareL, b1], List.append_nil])
        have hj' : ¬ j < 0 := by omega
        clear hi1 b2 b1
        go_wp2_with (go_at_call 55; refine (HI1.out _).mono ?_; rintro e w1 ⟨rfl, hw⟩; replace hw := hw.symm; subst hw)
        exact ⟨⟨k + 1, by omega, by go_num, by rw [HE.out]; exact HI.out, HBB.out⟩, by simp [intOf]; omega⟩
      · rw [b2] at hi1
        have HI1 := Lib.hid hi1
        have HE := Lib.hid (show bareL (s.data.toList.take (k + 1)) = o ++ [c] by rw [HSN.out, show bareL [c] = [c] by simp [bareL, b1]])
        clear hi1 b2 b1
        go_wp2_with (go_at_call 55; refine (HI1.out _).mono ?_; rintro e w1 ⟨rfl, hw⟩; replace hw := hw.symm; subst hw)
        go_wp2_with (go_at_call 56; refine (put_any B B _ _ _ HI.out (by rw [bc_len]; have := HLk.out; omega) HBs.out).mono ?_)
        rintro e w2 ⟨rfl, h1, h2⟩
        have HI2 := Lib.hid (show Lib.IsBuilder 63 5 B B (Lib.byteCells (o ++ [c])) w2 by rw [bc_app]; exact h1)
        have HB2 := Lib.hid (HBB.out.trans h2)
        clear h1 h2
        go_wp2
        exact ⟨⟨k + 1, by omega, by go_num, by rw [HE.out]; exact HI2.out, HB2.out⟩, by simp [intOf]; omega⟩
    · have hks : k = s.size := by omega
      subst hks
      have HP2 := Lib.hid (show r = ⟨(bareL (s.data.toList.take s.size)).toArray⟩ by rw [HP.out, List.take_of_length_le (by simp)])
      obtain ⟨o, ho⟩ : ∃ o, bareL (s.data.toList.take s.size) = o := ⟨_, rfl⟩
      rw [ho] at HI HP2
      clear ho
      go_wp2_with (go_at_call 57; refine (Tryz.Builder_String_any B B _ _ HI.out HBs.out).mono ?_)
      rintro e w2 ⟨rfl, h2⟩
      have HB2 := Lib.hid (HBB.out.trans h2)
      clear h2
      go_wp2
      go_ret
      exact ⟨by rw [HP2.out]; rfl, (by rw [hB]; exact HB2.out)⟩
set_option maxHeartbeats 2000000 in
theorem tcanon_any (s : ByteArray) (hs : s.size ≤ 1000000) (w : World) (hT : Tabs w) : Calls Tryz.prog 26 #[.string s] w fun e w' => e = .returned (.tuple #[.string (telS s).1, .int .i64 (telS s).2]) ∧ Below w.heap.size w w' := by
  have hC := clean_any s hs w hT
  have htz : ((cleanS s).1.size : Int) ≤ 1000000 := by
    unfold cleanS cleanOf
    have h1 := sq_len s.data.toList
    have h2 : (squeezeS s).size ≤ 1000000 := by rw [squeezeS_sq]; show (sq s.data.toList).toArray.size ≤ _; simp at h1 ⊢; omega
    repeat' split
    all_goals first | (show (((squeezeS s).size : Nat) : Int) ≤ 1000000; omega) | (show ((0 : Nat) : Int) ≤ 1000000; omega)
  obtain ⟨r, hr⟩ : ∃ r, telS s = r := ⟨_, rfl⟩
  rw [hr]
  have hrr : r = telOf (cleanS s).1 (cleanS s).2 := by rw [← hr]; rfl
  clear hr
  obtain ⟨⟨t, k⟩, ht⟩ : ∃ t, cleanS s = t := ⟨_, rfl⟩
  rw [ht] at hC htz hrr
  simp only at hC htz hrr
  have HC := Lib.hid hC
  have HR := Lib.hid hrr
  have HBa := Lib.hid (bare_any t (by omega))
  have HIs := Lib.hid (fun w => is_any ⟨(bareL t.data.toList).toArray⟩ (by have := bare_le t.data.toList; show (bareL t.data.toList).toArray.size ≤ _; simp at this ⊢; omega) w)
  clear hC ht hrr
  obtain ⟨u, hu⟩ : ∃ u, bareL t.data.toList = u := ⟨_, rfl⟩
  have HIu := HIs.out
  unfold telOf at HR
  rw [hu] at HBa HIu HR
  rw [tbs_list] at HIu
  obtain ⟨U, hU⟩ : ∃ U : ByteArray, (⟨u.toArray⟩ : ByteArray) = U := ⟨_, rfl⟩
  rw [hU] at HBa HIu HR
  have HI2 := Lib.hid HIu
  clear HIs HIu hu hU
  by_cases hk : k = 0
  · subst hk
    cases hb : telB u with
    | true =>
      rw [hb] at HI2
      have H0 := Lib.hid (show r = (U, 0) by rw [HR.out, if_pos rfl, if_pos hb])
      go_enter Tryz.func26, Tryz.ntmps26
      go_wp2_with (go_at_call 28; refine (HC.out).mono ?_)
      rintro e w1 rfl h1
      have HB1 := Lib.hid h1
      clear h1
      go_wp2_with (go_at_call 37; refine (HBa.out _).mono ?_)
      rintro e w2 ⟨rfl, h2⟩
      have HB2 := Lib.hid (HB1.out.trans (h2.mono HB1.out.size))
      clear h2
      go_wp2_with (go_at_call 38; refine (HI2.out _).mono ?_; rintro e w3 ⟨rfl, hw⟩; replace hw := hw.symm; subst hw)
      go_ret2
      exact ⟨by rw [H0.out]; rfl, HB2.out⟩
    | false =>
      rw [hb] at HI2
      have H0 := Lib.hid (show r = (⟨#[]⟩, 1) by rw [HR.out, if_pos rfl, if_neg (by rw [hb]; decide)])
      go_enter Tryz.func26, Tryz.ntmps26
      go_wp2_with (go_at_call 28; refine (HC.out).mono ?_)
      rintro e w1 rfl h1
      have HB1 := Lib.hid h1
      clear h1
      go_wp2_with (go_at_call 37; refine (HBa.out _).mono ?_)
      rintro e w2 ⟨rfl, h2⟩
      have HB2 := Lib.hid (HB1.out.trans (h2.mono HB1.out.size))
      clear h2
      go_wp2_with (go_at_call 38; refine (HI2.out _).mono ?_; rintro e w3 ⟨rfl, hw⟩; replace hw := hw.symm; subst hw)
      go_ret2
      exact ⟨by rw [H0.out]; rfl, HB2.out⟩
  · have hk' : (k != 0) = true := by simpa using hk
    have H0 := Lib.hid (show r = (⟨#[]⟩, k) by rw [HR.out, if_neg hk])
    clear hk
    go_enter Tryz.func26, Tryz.ntmps26
    go_wp2_with (go_at_call 28; refine (HC.out).mono ?_)
    rintro e w1 ⟨rfl, h1⟩
    have HB1 := Lib.hid h1
    clear h1
    go_wp2
    go_ret2
    exact ⟨by rw [H0.out]; rfl, HB1.out⟩
end Go.Proofs.YthknkglhppngoaaGreatDoor
/- Fold. -/
namespace Go.Proofs.YthknkglhppngoaaGreatDoor
open Go.RowKit
set_option linter.unusedVariables false
set_option maxRecDepth 100000
set_option maxHeartbeats 4000000 in
theorem fold_any (s : ByteArray) (hs : s.size ≤ 1000000) (w : World) : Calls Tryz.prog 40 #[.string s] w fun e w' => e = .returned (.string (lowS s)) ∧ Below w.heap.size w w' := by
  obtain ⟨cap, hcap⟩ : ∃ cap, grownCap w s.size 0 5 = cap := ⟨_, rfl⟩
  have hge : s.size ≤ cap := by rw [← hcap]; exact grownCap_ge _ _ _ _
  have kc := run_bytes_of_string (P := Tryz.prog) w 9 50 5 s Tryz.underlying9 Tryz.underlying50 Tryz.underlying5
  rw [hcap] at kc
  have HR := Lib.hid (row_str w.drew s cap hge w.heap.size rfl)
  have HB0 : Hid (Below w.heap.size w (w.drew.alloc (.cells (bytesRow s cap) 5 ((bytesRow s cap).size, (bytesRow s cap).size + 1)))) := Lib.hid (((Below.refl _ _).drew).alloc (Nat.le_refl _) _)
  obtain ⟨W1, hW1⟩ : ∃ W1, w.drew.alloc (.cells (bytesRow s cap) 5 ((bytesRow s cap).size, (bytesRow s cap).size + 1)) = W1 := ⟨_, rfl⟩
  rw [hW1] at kc HR HB0
  clear hW1 hcap
  have hcapI : (s.size : Int) ≤ (cap : Int) := by omega
  go_enter Tryz.func40, Tryz.ntmps40
  go_wp2
  go_loopw [10] (fun i wr => ∃ k : Nat, k ≤ s.size ∧ i = .int .i64 (k : Int) ∧ Row wr w.heap.size cap (part s.data.toList k) ∧ Below w.heap.size w wr) (fun i _ => s.size - (intOf i).toNat)
  case atStart => exact ⟨0, Nat.zero_le _, rfl, by unfold part lowL; simpa using HR.out, HB0.out⟩
  case round =>
    obtain ⟨k, hk, rfl, hr, hb⟩ := hrel
    have HRR := Lib.hid hr
    have HBB := Lib.hid hb
    clear hr hb
    by_cases hlt : k < s.size
    · have hkl : k < s.data.toList.length := by simpa using hlt
      obtain ⟨cc, cf⟩ := HRR.out.cell (part_at _ _ hkl)
      obtain ⟨c, hc⟩ : ∃ c, s.data.toList[k] = c := ⟨_, rfl⟩
      rw [hc] at cc
      have hc8 : (c.toNat : Int) ≤ 255 := by have := c.toNat_lt; omega
      have HC := Lib.hid hc
      clear hc
      by_cases u1 : 65 ≤ (c.toNat : Int)
      · by_cases u2 : (c.toNat : Int) ≤ 90
        · have HS := Lib.hid (show Row (wr.setCell ⟨w.heap.size, k, none⟩ (.int .u8 ((c.toNat : Int) - 65 + 97))) w.heap.size cap (part s.data.toList (k + 1)) by
            have h := HRR.out.set k (low s.data.toList[k])
            rw [part_set _ _ hkl, HC.out] at h
            have e : ((low c).toNat : Int) = (c.toNat : Int) - 65 + 97 := by
              unfold low; rw [if_pos ⟨u1, u2⟩, UInt8.toNat_ofNat']; omega
            rwa [e] at h)
          go_wp2
          exact ⟨⟨k + 1, by omega, by go_num, HS.out, HBB.out.setCell (p := ⟨w.heap.size, k, none⟩) (Nat.le_refl _) _⟩, by simp [intOf]; omega⟩
        · have u3 : decide ((c.toNat : Int) ≤ 90) = false := by simp; omega
          have HS := Lib.hid (part_same _ _ hkl (by rw [HC.out]; unfold low; rw [if_neg (by omega)]))
          go_wp2
          exact ⟨⟨k + 1, by omega, by go_num, by rw [HS.out]; exact HRR.out, HBB.out⟩, by simp [intOf]; omega⟩
      · have u3 : decide (65 ≤ (c.toNat : Int)) = false := by simp; omega
        have HS := Lib.hid (part_same _ _ hkl (by rw [HC.out]; unfold low; rw [if_neg (by omega)]))
        go_wp2
        exact ⟨⟨k + 1, by omega, by go_num, by rw [HS.out]; exact HRR.out, HBB.out⟩, by simp [intOf]; omega⟩
    · have hks : k = s.size := by omega
      subst hks
      have hcv := row_conv HRR.out cap
      have e : part s.data.toList s.size = lowL s.data.toList := by unfold part lowL; rw [List.take_of_length_le (by simp), List.drop_of_length_le (by simp)]; simp
      rw [part_len, ← bs_size, e] at hcv
      go_wp2
      go_ret
      exact ⟨rfl, HBB.out⟩
end Go.Proofs.YthknkglhppngoaaGreatDoor
/- Addresses: what the texts are, in plain words. -/
namespace Go.Proofs.YthknkglhppngoaaGreatDoor
open Go.RowKit
open Go.Lib hiding intOf
set_option linter.unusedVariables false
def capB (c : UInt8) : Bool := decide (65 ≤ (c.toNat : Int)) && decide ((c.toNat : Int) ≤ 90)
def lowB (c : UInt8) : Bool := decide (97 ≤ (c.toNat : Int)) && decide ((c.toNat : Int) ≤ 122)
def numB (c : UInt8) : Bool := decide (48 ≤ (c.toNat : Int)) && decide ((c.toNat : Int) ≤ 57)
def sodB (c : UInt8) : Bool := lowB c || numB c
def dotC (c : UInt8) : Bool := c == 46 || c == 95 || c == 43 || c == 45
def locC (c : UInt8) : Bool := capB c || sodB c || dotC c
def labC (c : UInt8) : Bool := sodB c || (c.toNat : Int) == 45
/-- Two dots, one behind the other. -/
def adj : List UInt8 → Bool
  | [] => false
  | c :: t => (c == 46 && t.head? == some 46) || adj t
def localB (l : List UInt8) : Bool := decide (1 ≤ (l.length : Int)) && decide ((l.length : Int) ≤ 32) && !adj ([46] ++ l ++ [46]) && l.all locC
def labelB (l : List UInt8) : Bool := decide (1 ≤ (l.length : Int)) && decide ((l.length : Int) ≤ 20) && !(l.getD 0 0 == 45) && !(l.getD (l.length - 1) 0 == 45) && l.all labC
def splitL : List UInt8 → List (List UInt8)
  | [] => [[]]
  | c :: t => if c = 46 then [] :: splitL t else match splitL t with
    | [] => [[c]]
    | h :: r => (c :: h) :: r
def domB (l : List UInt8) : Bool := decide (2 ≤ ((splitL l).length : Int)) && (splitL l).all labelB
def mailB (l : List UInt8) : Bool := (cut l [64]).2.2 && decide ((l.length : Int) ≤ 64) && localB (cut l [64]).1 && domB (cut l [64]).2.1
def atN (t : ByteArray) : Nat := (lastIndexByte t 64 + 1).toNat
def lowAt (t : ByteArray) : ByteArray := t.extract 0 (atN t) ++ lowS (t.extract (atN t) t.size)
def mailOf (t : ByteArray) (k : Int) : ByteArray × Int := if k = 0 then (if mailB (lowAt t).data.toList = true then (lowAt t, 0) else (⟨#[]⟩, 1)) else (⟨#[]⟩, k)
def mailS (s : ByteArray) : ByteArray × Int := mailOf (cleanS s).1 (cleanS s).2
theorem index_has (a b : List UInt8) (c : UInt8) (h : c ∉ a) : index (a ++ c :: b) [c] = a.length := by
  induction a with
  | nil => simp [index, List.isPrefixOf]
  | cons x t ih =>
    have hx : ¬ c = x := fun e => h (by simp [e])
    have ih := ih (fun e => h (by simp [e]))
    rw [List.cons_append]
    unfold index
    rw [if_neg (by simpa [List.isPrefixOf] using hx), ih, if_neg (by rw [beq_iff_eq]; omega)]
    simp
theorem index_not (l : List UInt8) (c : UInt8) (h : c ∉ l) : index l [c] = -1 := by
  induction l with
  | nil => rfl
  | cons x t ih =>
    have hx : ¬ c = x := fun e => h (by simp [e])
    have ih := ih (fun e => h (by simp [e]))
    unfold index
    rw [if_neg (by simpa [List.isPrefixOf] using hx), ih]; rfl
theorem cut_has (a b : List UInt8) (c : UInt8) (h : c ∉ a) : cut (a ++ c :: b) [c] = (a, b, true) := by
  unfold cut
  rw [index_has a b c h, if_pos (by omega)]
  simp
theorem cut_not (l : List UInt8) (c : UInt8) (h : c ∉ l) : cut l [c] = (l, [], false) := by
  unfold cut
  rw [index_not l c h, if_neg (by decide)]
theorem first_at (l : List UInt8) (c : UInt8) (h : c ∈ l) : ∃ a b, l = a ++ c :: b ∧ c ∉ a := by
  induction l with
  | nil => cases h
  | cons x t ih =>
    by_cases hx : x = c
    · exact ⟨[], t, by rw [hx]; rfl, by simp⟩
    · have : c ∈ t := by rcases List.mem_cons.1 h with e | e; exact absurd e.symm hx; exact e
      obtain ⟨a, b, e, ha⟩ := ih this
      exact ⟨x :: a, b, by rw [e]; rfl, by simp only [List.mem_cons, not_or]; exact ⟨fun e => hx e.symm, ha⟩⟩
theorem adj_cons (c : UInt8) (t : List UInt8) : adj (c :: t) = ((c == 46 && t.head? == some 46) || adj t) := rfl
theorem contains_adj (l : List UInt8) : contains l [46, 46] = adj l := by
  unfold contains
  induction l with
  | nil => rfl
  | cons c t ih =>
    rw [adj_cons, ← ih, show index (c :: t) [46, 46] = if [46, 46].isPrefixOf (c :: t) then 0 else if index t [46, 46] == -1 then -1 else index t [46, 46] + 1 from rfl]
    have hge := index_ge t [46, 46]
    have hp : [46, 46].isPrefixOf (c :: t) = (c == 46 && t.head? == some 46) := by
      cases t with
      | nil => simp [List.isPrefixOf]
      | cons d r => simp only [List.isPrefixOf, Bool.and_true, List.head?_cons]; rw [Bool.beq_comm (a := 46) (b := c)]; congr 1; rw [Bool.beq_comm]; simp
    rw [hp]
    by_cases h1 : (c == 46 && t.head? == some 46) = true
    · rw [if_pos h1, h1]; rfl
    · have h1' : (c == 46 && t.head? == some 46) = false := by simpa using h1
      rw [if_neg h1, h1', Bool.false_or]
      by_cases h2 : (index t [46, 46] == -1) = true
      · rw [if_pos h2]
        have := beq_iff_eq.1 h2
        rw [this]
      · rw [if_neg h2]
        have h3 : index t [46, 46] ≠ -1 := fun e => h2 (beq_iff_eq.2 e)
        rw [decide_eq_true (by omega), decide_eq_true (by omega)]
theorem split_cons (c : UInt8) (t : List UInt8) : splitL (c :: t) = if c = 46 then [] :: splitL t else match splitL t with
    | [] => [[c]]
    | h :: r => (c :: h) :: r := rfl
theorem split_ne (l : List UInt8) : splitL l ≠ [] := by
  cases l with
  | nil => simp [splitL]
  | cons c t => unfold splitL; split; simp; split <;> simp
theorem split_app (a b : List UInt8) (h : (46 : UInt8) ∉ a) : splitL (a ++ 46 :: b) = a :: splitL b := by
  induction a with
  | nil => simp [splitL]
  | cons x t ih =>
    have hx : ¬ x = 46 := fun e => h (by simp [e])
    rw [List.cons_append, split_cons, if_neg hx, ih (fun e => h (by simp [e]))]
theorem split_pre (a b : List UInt8) (h : (46 : UInt8) ∉ a) : ∃ hd r, splitL b = hd :: r ∧ splitL (a ++ b) = (a ++ hd) :: r := by
  induction a with
  | nil =>
    cases hb : splitL b with
    | nil => exact absurd hb (split_ne b)
    | cons hd r => exact ⟨hd, r, rfl, hb⟩
  | cons x t ih =>
    have hx : ¬ x = 46 := fun e => h (by simp [e])
    obtain ⟨hd, r, e1, e2⟩ := ih (fun e => h (by simp [e]))
    refine ⟨hd, r, e1, ?_⟩
    rw [List.cons_append, split_cons, if_neg hx, e2]
    rfl
theorem split_one (a : List UInt8) (h : (46 : UInt8) ∉ a) : splitL a = [a] := by
  obtain ⟨hd, r, e1, e2⟩ := split_pre a [] h
  rw [List.append_nil] at e2
  rw [show splitL [] = [[]] from rfl] at e1
  cases e1
  rw [e2, List.append_nil]
theorem split_both (a b : List UInt8) : splitL (a ++ 46 :: b) = splitL a ++ splitL b := by
  by_cases h : (46 : UInt8) ∈ a
  · obtain ⟨n, hn⟩ : ∃ n, a.length ≤ n := ⟨_, Nat.le_refl _⟩
    induction n generalizing a with
    | zero => have := List.eq_nil_of_length_eq_zero (Nat.le_zero.1 hn); subst this; cases h
    | succ n ih =>
      obtain ⟨p, q, rfl, hp⟩ := first_at a 46 h
      rw [List.append_assoc, List.cons_append, split_app p _ hp, split_app p q hp]
      by_cases hq : (46 : UInt8) ∈ q
      · rw [ih q hq (by simp at hn; omega)]; rfl
      · rw [split_app q b hq, split_one q hq]; rfl
  · rw [split_app a b h, split_one a h]; rfl
theorem splitB_list : ∀ (n : Nat) (s : ByteArray), s.size ≤ n → (splitB ⟨#[46]⟩ 0 (countB s ⟨#[46]⟩) s).map (fun b => b.data.toList) = splitL s.data.toList := by
  intro n
  induction n with
  | zero =>
    intro s hs
    have hn : s.data.toList = [] := List.eq_nil_of_length_eq_zero (by simpa using Nat.le_zero.1 hs)
    have hi : indexB s ⟨#[46]⟩ = -1 := by show index s.data.toList [46] = -1; rw [hn]; rfl
    rw [countB_miss s _ hi, splitB_zero, hn]
    simp [hn, splitL]
  | succ n ih =>
    intro s hs
    by_cases h : (46 : UInt8) ∈ s.data.toList
    · obtain ⟨a, b, e, ha⟩ := first_at _ _ h
      have hi : indexB s ⟨#[46]⟩ = (a.length : Int) := by show index s.data.toList [46] = _; rw [e]; exact index_has a b 46 ha
      have hsz : s.size = a.length + 1 + b.length := by
        have : s.data.toList.length = s.size := by simp
        rw [e] at this; simp at this; omega
      have hx : (s.extract (a.length + 1) s.size).data.toList = b := by
        have h1 : (s.extract (a.length + 1) s.size).data.toList = s.data.toList.drop (a.length + 1) := by simp [List.take_of_length_le]
        rw [h1, e, show a ++ 46 :: b = (a ++ [46]) ++ b by simp]
        exact List.drop_left' (by simp)
      have hx0 : (s.extract 0 a.length).data.toList = a := by
        have h1 : (s.extract 0 a.length).data.toList = s.data.toList.take a.length := by simp
        rw [h1, e]; simp
      have hc := countB_hit s ⟨#[46]⟩ a.length (Nat.le_refl _) hi
      rw [hc, Nat.add_comm]
      unfold splitB
      rw [if_neg (by rw [hi]; simp), hi]
      have hz : (⟨#[46]⟩ : ByteArray).size = 1 := rfl
      rw [Int.toNat_natCast, hz, Nat.add_zero, List.map_cons, ih _ (by rw [ByteArray.size_extract]; omega), hx0, hx, e, split_app a b ha]
    · have hi : indexB s ⟨#[46]⟩ = -1 := index_not _ _ h
      rw [countB_miss s _ hi, splitB_zero, split_one _ h]
      rfl
theorem count_len (s : ByteArray) : countB s ⟨#[46]⟩ + 1 = (splitL s.data.toList).length := by
  have h := congrArg List.length (splitB_list s.size s (Nat.le_refl _))
  rw [List.length_map, splitB_all ⟨#[46]⟩ (Nat.le_refl _) 0 _ s rfl] at h
  exact h
end Go.Proofs.YthknkglhppngoaaGreatDoor
namespace Go.Proofs.YthknkglhppngoaaGreatDoor
open Go.RowKit
open Go.Lib hiding intOf
set_option linter.unusedVariables false
set_option maxRecDepth 20000
set_option maxHeartbeats 1000000 in
theorem sod_any (c : UInt8) (w : World) : Calls Tryz.prog 88 #[.int .u8 (c.toNat : Int)] w fun e w' => e = .returned (.bool (sodB c)) ∧ w' = w := by
  have hc8 : (c.toNat : Int) ≤ 255 := by have := c.toNat_lt; omega
  obtain ⟨r, hr⟩ : ∃ r, sodB c = r := ⟨_, rfl⟩
  rw [hr]
  have HR := Lib.hid (show r = ((decide (97 ≤ (c.toNat : Int)) && decide ((c.toNat : Int) ≤ 122)) || (decide (48 ≤ (c.toNat : Int)) && decide ((c.toNat : Int) ≤ 57))) by rw [← hr]; rfl)
  clear hr
  by_cases u1 : 97 ≤ (c.toNat : Int)
  · by_cases u2 : (c.toNat : Int) ≤ 122
    · have e := Lib.hid (show r = true by rw [HR.out]; simp [u1, u2])
      go_enter Tryz.func88, Tryz.ntmps88
      go_wp2
      go_ret
      exact ⟨by rw [e.out]; rfl, rfl⟩
    · have u2' : decide ((c.toNat : Int) ≤ 122) = false := by simpa using u2
      have u3 : 48 ≤ (c.toNat : Int) := by omega
      have u4 : ¬ (c.toNat : Int) ≤ 57 := by omega
      have u4' : decide ((c.toNat : Int) ≤ 57) = false := by simpa using u4
      have e := Lib.hid (show r = false by rw [HR.out, u2', u4']; simp)
      clear HR
      go_enter Tryz.func88, Tryz.ntmps88
      go_wp2
      go_ret
      exact ⟨by rw [e.out]; rfl, rfl⟩
  · have u1' : decide (97 ≤ (c.toNat : Int)) = false := by simpa using u1
    by_cases u3 : 48 ≤ (c.toNat : Int)
    · by_cases u4 : (c.toNat : Int) ≤ 57
      · have e := Lib.hid (show r = true by rw [HR.out]; simp [u3, u4])
        go_enter Tryz.func88, Tryz.ntmps88
        go_wp2
        go_ret
        exact ⟨by rw [e.out]; rfl, rfl⟩
      · have u4' : decide ((c.toNat : Int) ≤ 57) = false := by simpa using u4
        have e := Lib.hid (show r = false by rw [HR.out, u1', u4']; simp)
        go_enter Tryz.func88, Tryz.ntmps88
        go_wp2
        go_ret
        exact ⟨by rw [e.out]; rfl, rfl⟩
    · have u3' : decide (48 ≤ (c.toNat : Int)) = false := by simpa using u3
      have e := Lib.hid (show r = false by rw [HR.out, u1', u3']; simp)
      go_enter Tryz.func88, Tryz.ntmps88
      go_wp2
      go_ret
      exact ⟨by rw [e.out]; rfl, rfl⟩
theorem take_snoc_all (p : UInt8 → Bool) (d : ByteArray) (k : Nat) (hk : k < d.size) : (d.data.toList.take (k + 1)).all p = ((d.data.toList.take k).all p && p d[k]) := by
  rw [List.take_succ_eq_append_getElem (by simpa using hk), List.all_append]
  simp
  rfl
theorem miss_all (p : UInt8 → Bool) (d : ByteArray) (k : Nat) (hk : k < d.size) (h : p d[k] = false) : d.data.toList.all p = false := by
  rw [List.all_eq_false]
  refine ⟨d[k], ?_, by rw [h]; simp⟩
  have : d.data.toList[k]'(by simpa using hk) ∈ d.data.toList := List.getElem_mem _
  exact this
theorem getD_at (s : ByteArray) (k : Nat) (h : k < s.size) : s.data.toList.getD k 0 = s[k] := by
  rw [List.getD_eq_getElem?_getD, List.getElem?_eq_getElem (by simpa using h)]; rfl
theorem byte_of {c : UInt8} {n : Nat} (k : UInt8) (hk : k.toNat = n) (h : (c.toNat : Int) = n) : c = k := UInt8.toNat_inj.1 (by omega)
theorem byte_beq (c k : UInt8) : (c == k) = ((c.toNat : Int) == (k.toNat : Int)) := by
  by_cases h : c = k
  · subst h; simp
  · have h1 : (c == k) = false := by simpa using h
    rw [h1]; symm
    rw [beq_eq_false_iff_ne]
    intro e; exact h (UInt8.toNat_inj.1 (by omega))
set_option maxHeartbeats 4000000 in
theorem isLabel_any (s : ByteArray) (hs : s.size ≤ 1000000) (w : World) : Calls Tryz.prog 90 #[.string s] w fun e w' => e = .returned (.bool (labelB s.data.toList)) ∧ w' = w := by
  have hsl : s.data.toList.length = s.size := by simp
  have hr0 : labelB s.data.toList = (decide (1 ≤ (s.size : Int)) && decide ((s.size : Int) ≤ 20) && !(s.data.toList.getD 0 0 == 45) && !(s.data.toList.getD (s.size - 1) 0 == 45) && s.data.toList.all labC) := by
    unfold labelB; rw [hsl]
  obtain ⟨r, hr⟩ : ∃ r, labelB s.data.toList = r := ⟨_, rfl⟩
  rw [hr] at hr0 ⊢
  have HR := Lib.hid hr0
  have hsI : (s.size : Int) ≤ 1000000 := by omega
  clear hr0 hr hsl
  by_cases h1 : (s.size : Int) < 1
  · have H0 := Lib.hid (show r = false by rw [HR.out, decide_eq_false (by omega)]; rfl)
    go_enter Tryz.func90, Tryz.ntmps90
    go_wp2
    go_ret
    exact ⟨by rw [H0.out]; rfl, rfl⟩
  · by_cases h20 : (s.size : Int) > 20
    · have H0 := Lib.hid (show r = false by rw [HR.out, decide_eq_false (show ¬ (s.size : Int) ≤ 20 by omega)]; simp)
      go_enter Tryz.func90, Tryz.ntmps90
      go_wp2
      go_ret
      exact ⟨by rw [H0.out]; rfl, rfl⟩
    · obtain ⟨n, hn⟩ : ∃ n, s.size = n + 1 := ⟨s.size - 1, by omega⟩
      have hz : 0 < s.size := by omega
      have hns : n < s.size := by omega
      have hnI : (s.size : Int) - 1 = (n : Int) := by omega
      have HR2 := Lib.hid (show r = (!((s[0].toNat : Int) == 45) && !((s[n].toNat : Int) == 45) && s.data.toList.all labC) by
        rw [HR.out, decide_eq_true (by omega), decide_eq_true (by omega), show s.size - 1 = n by omega, getD_at s 0 hz, getD_at s n hns, byte_beq, byte_beq]; rfl)
      clear HR
      by_cases u0 : (s[0].toNat : Int) = 45
      · have u0' : ((s[0].toNat : Int) == 45) = true := by rw [u0]; rfl
        have H0 := Lib.hid (show r = false by rw [HR2.out, u0']; rfl)
        clear u0 HR2 hn
        go_enter Tryz.func90, Tryz.ntmps90
        go_wp2
        go_ret
        exact ⟨by rw [H0.out]; rfl, rfl⟩
      · have u0' : ((s[0].toNat : Int) == 45) = false := by simpa using u0
        by_cases u9 : (s[n].toNat : Int) = 45
        · have u9' : ((s[n].toNat : Int) == 45) = true := by rw [u9]; rfl
          have H0 := Lib.hid (show r = false by rw [HR2.out, u9', u0']; rfl)
          clear u0 u9 HR2 hn
          go_enter Tryz.func90, Tryz.ntmps90
          go_wp2
          go_ret
          exact ⟨by rw [H0.out]; rfl, rfl⟩
        · have u9' : ((s[n].toNat : Int) == 45) = false := by simpa using u9
          have HR3 := Lib.hid (show r = s.data.toList.all labC by rw [HR2.out, u9', u0']; rfl)
          have HS := Lib.hid sod_any
          clear u0 u9 HR2 hn
          go_enter Tryz.func90, Tryz.ntmps90
          go_wp2
          go_loop [28] (fun i => ∃ k : Nat, k ≤ s.size ∧ i = .int .i64 (k : Int) ∧ (s.data.toList.take k).all labC = true) (fun i => s.size - (intOf i).toNat)
          case atStart => exact ⟨0, Nat.zero_le _, rfl, by simp⟩
          case round =>
            obtain ⟨k, hk, rfl, hno⟩ := hrel
            have HN := Lib.hid hno
            clear hno
            by_cases hlt : k < s.size
            · have HT := Lib.hid (take_snoc_all labC s k hlt)
              have HM := Lib.hid (miss_all labC s k hlt)
              obtain ⟨c, hc⟩ : ∃ c, s[k] = c := ⟨_, rfl⟩
              rw [hc] at HT HM
              have hc8 : (c.toNat : Int) ≤ 255 := by have := c.toNat_lt; omega
              have HC := Lib.hid (fun w => HS.out c w)
              clear u0' u9' hnI
              cases hd : sodB c with
              | true =>
                rw [hd] at HC
                have HE := Lib.hid (show (s.data.toList.take (k + 1)).all labC = true by rw [HT.out, HN.out]; unfold labC; rw [hd]; rfl)
                clear hd
                go_wp2_with (go_at_call 88; (with_reducible refine (HC.out _).mono ?_); rintro e w1 ⟨rfl, hw⟩; replace hw := hw.symm; subst hw)
                exact ⟨⟨k + 1, by omega, by go_num, HE.out⟩, by simp [intOf]; omega⟩
              | false =>
                rw [hd] at HC
                by_cases u5 : (c.toNat : Int) = 45
                · have u5' : ((c.toNat : Int) == 45) = true := by rw [u5]; rfl
                  have u5n : ((c.toNat : Int) != 45) = false := by rw [u5]; rfl
                  have HE := Lib.hid (show (s.data.toList.take (k + 1)).all labC = true by rw [HT.out, HN.out]; unfold labC; rw [u5']; simp)
                  clear hd u5
                  go_wp2_with (go_at_call 88; (with_reducible refine (HC.out _).mono ?_); rintro e w1 ⟨rfl, hw⟩; replace hw := hw.symm; subst hw)
                  exact ⟨⟨k + 1, by omega, by go_num, HE.out⟩, by simp [intOf]; omega⟩
                · have u5' : ((c.toNat : Int) == 45) = false := by simpa using u5
                  have u5n : ((c.toNat : Int) != 45) = true := by simpa using u5
                  have H0 := Lib.hid (show r = false by rw [HR3.out]; exact HM.out (by unfold labC; rw [u5', hd]; rfl))
                  clear hd u5
                  go_wp2_with (go_at_call 88; (with_reducible refine (HC.out _).mono ?_); rintro e w1 ⟨rfl, hw⟩; replace hw := hw.symm; subst hw)
                  go_ret
                  exact ⟨by rw [H0.out]; rfl, rfl⟩
            · have hks : k = s.size := by omega
              subst hks
              have H0 := Lib.hid (show r = true by rw [HR3.out, ← HN.out, List.take_of_length_le (by simp)])
              go_wp2
              go_ret
              exact ⟨by rw [H0.out]; rfl, rfl⟩
/-- internal/bytealg.MaxLen holds some number. -/
def Mx (w : World) : Prop := ∃ m, w.cell? ⟨2, 0, none⟩ = some (.int .i64 m)
theorem Mx.keep {w w' : World} {B : Nat} (h : Mx w) (hb : Below B w w') (hB : 2 < B) : Mx w' := by
  obtain ⟨m, hm⟩ := h
  exact ⟨m, (hb.cell (p := ⟨2, 0, none⟩) hB).trans hm⟩
theorem Mx.lt {w : World} (h : Mx w) : 2 < w.heap.size := by
  obtain ⟨m, hm⟩ := h
  exact cell_lt hm
set_option maxHeartbeats 4000000 in
theorem isDomain_any (s : ByteArray) (hs : s.size ≤ 1000000) (w : World) (hM : Mx w) : Calls Tryz.prog 76 #[.string s] w fun e w' => e = .returned (.bool (domB s.data.toList)) ∧ Below w.heap.size w w' := by
  obtain ⟨m, hm⟩ := hM
  have HSp := Lib.hid (Tryz.strings_Split s ⟨#[46]⟩ m w (by omega) hm (Nat.le_refl _))
  have hL := splitB_list s.size s (Nat.le_refl _)
  have hLl := splitB_all ⟨#[46]⟩ (Nat.le_refl _) 0 _ s rfl
  have hcl := countB_le ⟨#[46]⟩ (Nat.le_refl _) s.size s (Nat.le_refl _)
  obtain ⟨n, hn⟩ : ∃ n, countB s ⟨#[46]⟩ + 1 = n := ⟨_, rfl⟩
  obtain ⟨L, hLL⟩ : ∃ L, splitB ⟨#[46]⟩ 0 (countB s ⟨#[46]⟩) s = L := ⟨_, rfl⟩
  rw [hLL] at hL hLl HSp
  have hnI : ((countB s ⟨#[46]⟩ + 1 : Nat) : Int) = (n : Int) := by omega
  rw [hn] at hLl HSp
  have hr0 : domB s.data.toList = (decide (2 ≤ (n : Int)) && L.all (fun b => labelB b.data.toList)) := by
    unfold domB
    rw [← hL, List.length_map, hLl, List.all_map]; rfl
  have hLs : ∀ x ∈ L, x.size ≤ 1000000 := by
    intro x hx
    have h1 : x.data.toList ∈ splitL s.data.toList := by rw [← hL]; exact List.mem_map_of_mem hx
    have h2 : ∀ (l : List UInt8) (p : List UInt8), p ∈ splitL l → p.length ≤ l.length := by
      intro l
      induction l with
      | nil => intro p hp; simp [splitL] at hp; subst hp; simp
      | cons c t ih =>
        intro p hp
        rw [split_cons] at hp
        split at hp
        · rcases List.mem_cons.1 hp with e | e
          · subst e; simp
          · have := ih p e; simp; omega
        · split at hp
          next e => exact absurd e (split_ne t)
          next h r e =>
            rw [e] at ih
            rcases List.mem_cons.1 hp with e2 | e2
            · subst e2; have := ih h (by simp); simp; omega
            · have := ih p (List.mem_cons_of_mem _ e2); simp; omega
    have h3 := h2 _ _ h1
    simp at h3
    omega
  obtain ⟨r, hr⟩ : ∃ r, domB s.data.toList = r := ⟨_, rfl⟩
  rw [hr] at hr0 ⊢
  have HR := Lib.hid hr0
  have HLs := Lib.hid hLs
  have HLl := Lib.hid hLl
  have hnb : (n : Int) ≤ 1000001 := by omega
  have HI := Lib.hid isLabel_any
  have HBl := Lib.hid (Blk.new w 9 (L.map Value.string).toArray)
  have HB0 := Lib.hid ((Below.refl w.heap.size w).alloc (Nat.le_refl _) (.cells (L.map Value.string).toArray 9))
  clear hr0 hr hLs hL hLl hLL hn hcl hnI hm
  go_enter Tryz.func76, Tryz.ntmps76
  obtain ⟨H, hH⟩ : ∃ H, w.heap.size = H := ⟨_, rfl⟩
  rw [hH] at HSp HBl HB0
  obtain ⟨W1, hW1⟩ : ∃ W1, w.alloc (.cells (L.map Value.string).toArray 9) = W1 := ⟨_, rfl⟩
  rw [hW1] at HSp HBl HB0
  clear hW1
  have HH := Lib.hid hH
  by_cases h2 : (n : Int) < 2
  · have H0 := Lib.hid (show r = false by rw [HR.out, decide_eq_false (by omega)]; rfl)
    clear hH
    go_wp2_with (go_at_call 89; (with_reducible refine (HSp.out).mono ?_); rintro e w1 ⟨rfl, hw⟩; subst hw)
    go_ret
    exact ⟨by rw [H0.out]; rfl, by rw [HH.out]; exact HB0.out⟩
  · have HR2 := Lib.hid (show r = L.all (fun b => labelB b.data.toList) by rw [HR.out, decide_eq_true (by omega)]; rfl)
    clear hH HR
    go_wp2_with (go_at_call 89; (with_reducible refine (HSp.out).mono ?_); rintro e w1 ⟨rfl, hw⟩; subst hw)
    go_loop [13] (fun i => ∃ k : Nat, k ≤ n ∧ i = .int .i64 (k : Int) ∧ (L.take k).all (fun b => labelB b.data.toList) = true) (fun i => n - (intOf i).toNat)
    case atStart => exact ⟨0, Nat.zero_le _, rfl, by simp⟩
    case round =>
      obtain ⟨k, hk, rfl, hno⟩ := hrel
      have HN := Lib.hid hno
      clear hno
      by_cases hlt : k < n
      · have hkL : k < L.length := by rw [HLl.out]; exact hlt
        have hcell : w1.cell? ⟨H, k, none⟩ = some (.string L[k]) := by
          rw [HBl.out.cell k]; simp [hkL]
        have HT := Lib.hid (show (L.take (k + 1)).all (fun b => labelB b.data.toList) = ((L.take k).all (fun b => labelB b.data.toList) && labelB L[k].data.toList) by
          rw [List.take_succ_eq_append_getElem hkL, List.all_append]; simp)
        have HMs := Lib.hid (show labelB L[k].data.toList = false → L.all (fun b => labelB b.data.toList) = false from fun h => by
          rw [List.all_eq_false]; exact ⟨L[k], List.getElem_mem _, by rw [h]; simp⟩)
        have hxs := HLs.out L[k] (List.getElem_mem _)
        obtain ⟨x, hx⟩ : ∃ x, L[k] = x := ⟨_, rfl⟩
        rw [hx] at hcell HT HMs hxs
        have HC := Lib.hid (fun w => HI.out x hxs w)
        clear hx hkL
        cases hd : labelB x.data.toList with
        | true =>
          rw [hd] at HC
          have HE := Lib.hid (show (L.take (k + 1)).all (fun b => labelB b.data.toList) = true by rw [HT.out, HN.out, hd]; rfl)
          clear hd
          go_wp2_with (go_at_call 90; (with_reducible refine (HC.out _).mono ?_); rintro e w2 ⟨rfl, hw⟩; replace hw := hw.symm; subst hw)
          exact ⟨⟨k + 1, by omega, by go_num, HE.out⟩, by simp [intOf]; omega⟩
        | false =>
          rw [hd] at HC
          have H0 := Lib.hid (show r = false by rw [HR2.out]; exact HMs.out hd)
          clear hd
          go_wp2_with (go_at_call 90; (with_reducible refine (HC.out _).mono ?_); rintro e w2 ⟨rfl, hw⟩; replace hw := hw.symm; subst hw)
          go_ret
          exact ⟨by rw [H0.out]; rfl, by rw [HH.out]; exact HB0.out⟩
      · have hkn : k = n := by omega
        subst hkn
        have H0 := Lib.hid (show r = true by rw [HR2.out, ← HN.out, List.take_of_length_le (by rw [HLl.out]; exact Nat.le_refl _)])
        go_wp2
        go_ret
        exact ⟨by rw [H0.out]; rfl, by rw [HH.out]; exact HB0.out⟩
end Go.Proofs.YthknkglhppngoaaGreatDoor
