/- Telephone numbers: Show, row, Match. -/
import Derived.Test.YtiikmkeolfdjiaaDoorTe
import Derived.Test.YtiikmkeolfdjiaaDoorBs
namespace Go.Proofs.YtiikmkeolfdjiaaDoor
open Go.RowKit
open Go.Lib hiding intOf
set_option linter.unusedVariables false
set_option maxRecDepth 20000
theorem bc_app2 (a b : List UInt8) : Lib.byteCells (a ++ b) = Lib.byteCells a ++ Lib.byteCells b := Lib.byteCells_append a b
theorem showK_len (d : List UInt8) : ∀ k, (showK d k).length ≤ 2 * k
  | 0 => by simp [showK]
  | k + 1 => by
    have := showK_len d k
    unfold showK
    split <;> simp <;> omega
set_option maxHeartbeats 4000000 in
theorem show_any (s : ByteArray) (hs : s.size ≤ 1000000) (w : World) : Calls Tryd.prog 11 #[.string s] w fun e w' => e = .returned (.string ⟨(showL s.data.toList).toArray⟩) ∧ Below w.heap.size w w' := by
  have HI0 := is_any s hs
  have HD0 := digits_any s
  have htl := tel_plain (l := s.data.toList)
  have hiff := telB_iff s.data.toList
  obtain ⟨pp, hp1, hp2, hp3⟩ := dgs_split s.data.toList
  obtain ⟨r, hr⟩ : ∃ r : ByteArray, (⟨(showL s.data.toList).toArray⟩ : ByteArray) = r := ⟨_, rfl⟩
  rw [hr]
  have hrr : r = ⟨(if telB s.data.toList = true then s.data.toList.take (s.data.toList.length - (dgsL s.data.toList).length) ++ showK (dgsL s.data.toList) (dgsL s.data.toList).length else []).toArray⟩ := hr.symm
  clear hr
  obtain ⟨d, hd⟩ : ∃ d : ByteArray, (⟨(dgsL s.data.toList).toArray⟩ : ByteArray) = d := ⟨_, rfl⟩
  have hdl : d.data.toList = dgsL s.data.toList := by rw [← hd]
  rw [hd] at HD0
  rw [← hdl] at hrr hiff hp1 hp3
  have hz : d.data.toList.length = d.size := by simp
  have hsz : s.data.toList.length = s.size := by simp
  rw [hz] at hrr hiff hp3
  rw [hsz] at hrr hp3 htl
  have HD := Lib.hid HD0
  clear HD0 hd hdl
  cases hb : telB s.data.toList with
  | false =>
    rw [hb] at HI0
    have HI := Lib.hid HI0
    have H0 := Lib.hid (show r = ⟨#[]⟩ by rw [hrr, if_neg (by rw [hb]; decide)])
    clear HI0 hrr hiff hp1 hp2 hp3 htl hz hsz hb
    go_enter Tryd.func11, Tryd.ntmps11
    go_wp2_with (go_at_call 9; refine (HI.out _).mono ?_; rintro e w1 ⟨rfl, hw⟩; replace hw := hw.symm; subst hw)
    go_ret
    exact ⟨by rw [H0.out]; rfl, Below.refl _ _⟩
  | true =>
    rw [hb] at HI0
    have HI := Lib.hid HI0
    obtain ⟨d3, d15, hdig⟩ := hiff.1 hb
    have hs16 := (htl hb).2
    have hds : d.size ≤ s.size := by have := congrArg List.length hp1; rw [List.length_append, hz, hsz] at this; omega
    obtain ⟨q, hq⟩ : ∃ q, s.size - d.size = q := ⟨_, rfl⟩
    rw [hq] at hrr hp3
    have hqI : (s.size : Int) - (d.size : Int) = (q : Int) := by omega
    have hql : q ≤ s.size := by omega
    have H0 := Lib.hid (show r = ⟨(s.data.toList.take q ++ showK d.data.toList d.size).toArray⟩ by rw [hrr, if_pos hb])
    have HQ := Lib.hid (show Lib.strCells (s.extract 0 q) = Lib.byteCells (s.data.toList.take q) by
      rw [Lib.strCells_eq]; congr 1; simp)
    have HQ2 := Lib.hid (show (s.extract 0 q).size ≤ 1000 by rw [ByteArray.size_extract]; omega)
    have HQ3 := Lib.hid (show (s.data.toList.take q).length ≤ 1000 by rw [List.length_take]; omega)
    have d15I : (d.size : Int) ≤ 15 := by omega
    have HSL := Lib.hid (showK_len d.data.toList)
    clear HI0 hrr hiff hp1 hp2 hp3 htl hz hsz hb hdig hq d3
    obtain ⟨B, hB⟩ : ∃ B, w.heap.size = B := ⟨_, rfl⟩
    have HF := Lib.hid (Lib.fresh_isBuilder 38 5 w)
    have HB0 := Lib.hid ((Below.refl w.heap.size w).alloc (Nat.le_refl _) (.cells #[.pointer none, .slice none 0 0] 38))
    have HBz := Lib.hid (show B ≤ (w.alloc (.cells #[.pointer none, .slice none 0 0] 38)).heap.size by simp; omega)
    rw [hB] at HF HB0
    go_enter Tryd.func11, Tryd.ntmps11
    go_wp2_with (first | (go_at_call 9; refine (HI.out _).mono ?_; rintro e w1 ⟨rfl, hw⟩; replace hw := hw.symm; subst hw) | (go_at_call 19; refine (HD.out _).mono ?_; rintro e w1 ⟨rfl, hw⟩; replace hw := hw.symm; subst hw))
    refine (puts_any B B [] (s.extract 0 q) _ HF.out (by have := HQ2.out; simp; omega) HBz.out).mono ?_
    rintro e w1 ⟨rfl, h1, h2⟩
    have HI1 := Lib.hid (show Lib.IsBuilder 38 5 B B (Lib.byteCells (s.data.toList.take q ++ showK d.data.toList 0)) w1 by
      rw [HQ.out, List.nil_append] at h1
      show Lib.IsBuilder _ _ _ _ (Lib.byteCells (s.data.toList.take q ++ [])) w1
      rw [List.append_nil]
      exact h1)
    have HB1 := Lib.hid (HB0.out.trans h2)
    clear h1 h2 HF HB0 HBz
    obtain ⟨p, hp⟩ : ∃ p, s.data.toList.take q = p := ⟨_, rfl⟩
    rw [hp] at HI1 HQ3 H0
    clear hp HQ HQ2
    go_wp2
    go_loopw [21] (fun i wr => ∃ k : Nat, k ≤ d.size ∧ i = .int .i64 (k : Int) ∧ Lib.IsBuilder 38 5 B B (Lib.byteCells (p ++ showK d.data.toList k)) wr ∧ Below B w wr) (fun i _ => d.size - (intOf i).toNat)
    case atStart => exact ⟨0, Nat.zero_le _, rfl, HI1.out, HB1.out⟩
    case round =>
      obtain ⟨k, hk, rfl, hi, hb⟩ := hrel
      have HIk := Lib.hid hi
      have HBB := Lib.hid hb
      have HBs := Lib.hid (show B ≤ wr.heap.size by have := hb.size; omega)
      have HLk := Lib.hid (show (p ++ showK d.data.toList k).length ≤ 2000 by have h1 := HSL.out k; have h2 := HQ3.out; rw [List.length_append]; omega)
      clear hi hb
      by_cases hlt : k < d.size
      · have HSN := Lib.hid (show showK d.data.toList (k + 1) = (if 0 < k ∧ k % 3 = 0 then showK d.data.toList k ++ [32] else showK d.data.toList k) ++ [d[k]] by
          have : d.data.toList.getD k 0 = d[k] := by rw [List.getD_eq_getElem?_getD, List.getElem?_eq_getElem (by simpa using hlt)]; rfl
          rw [← this]; rfl)
        obtain ⟨c, hc⟩ : ∃ c, d[k] = c := ⟨_, rfl⟩
        rw [hc] at HSN
        have hc8 : (c.toNat : Int) ≤ 255 := by have := c.toNat_lt; omega
        by_cases k0 : 0 < (k : Int)
        · obtain ⟨m, hm⟩ : ∃ m : Int, (k : Int) % 3 = m := ⟨_, rfl⟩
          by_cases m0 : (k : Int) % 3 = 0
          · have HE := Lib.hid (show p ++ showK d.data.toList (k + 1) = ((p ++ showK d.data.toList k) ++ [32]) ++ [c] by rw [HSN.out, if_pos (by omega)]; simp)
            obtain ⟨o, ho⟩ : ∃ o, p ++ showK d.data.toList k = o := ⟨_, rfl⟩
            rw [ho] at HIk HE HLk
            clear ho hm
            have m1 : (((k : Int) % 3) == 0) = true := by rw [m0]; rfl
            clear m0
            go_wp2_with (go_at_call 22; refine (put_any B B _ 32 _ HIk.out (by rw [bc_len]; have := HLk.out; omega) HBs.out).mono ?_)
            rintro e w2 ⟨rfl, h1, h2⟩
            have HI2 := Lib.hid (show Lib.IsBuilder 38 5 B B (Lib.byteCells (o ++ [32])) w2 by rw [bc_app]; exact h1)
            have HB2 := Lib.hid (HBB.out.trans h2)
            have HBt := Lib.hid (show B ≤ w2.heap.size by have := HB2.out.size; have := HBs.out; have := h2.size; omega)
            clear h1 h2
            go_wp2_with (go_at_call 22; refine (put_any B B _ _ _ HI2.out (by rw [bc_len]; have := HLk.out; simp; omega) HBt.out).mono ?_)
            rintro e w3 ⟨rfl, h1, h2⟩
            have HI3 := Lib.hid (show Lib.IsBuilder 38 5 B B (Lib.byteCells ((o ++ [32]) ++ [c])) w3 by rw [bc_app]; exact h1)
            have HB3 := Lib.hid (HB2.out.trans h2)
            clear h1 h2
            go_wp2
            exact ⟨⟨k + 1, by omega, by go_num, by rw [HE.out]; exact HI3.out, HB3.out⟩, by simp [intOf]; omega⟩
          · have HE := Lib.hid (show p ++ showK d.data.toList (k + 1) = (p ++ showK d.data.toList k) ++ [c] by rw [HSN.out, if_neg (by omega)]; simp)
            obtain ⟨o, ho⟩ : ∃ o, p ++ showK d.data.toList k = o := ⟨_, rfl⟩
            rw [ho] at HIk HE HLk
            clear ho hm
            have m1 : (((k : Int) % 3) == 0) = false := by simpa using m0
            clear m0
            go_wp2_with (go_at_call 22; refine (put_any B B _ _ _ HIk.out (by rw [bc_len]; have := HLk.out; omega) HBs.out).mono ?_)
            rintro e w3 ⟨rfl, h1, h2⟩
            have HI3 := Lib.hid (show Lib.IsBuilder 38 5 B B (Lib.byteCells (o ++ [c])) w3 by rw [bc_app]; exact h1)
            have HB3 := Lib.hid (HBB.out.trans h2)
            clear h1 h2
            go_wp2
            exact ⟨⟨k + 1, by omega, by go_num, by rw [HE.out]; exact HI3.out, HB3.out⟩, by simp [intOf]; omega⟩
        · have HE := Lib.hid (show p ++ showK d.data.toList (k + 1) = (p ++ showK d.data.toList k) ++ [c] by rw [HSN.out, if_neg (by omega)]; simp)
          obtain ⟨o, ho⟩ : ∃ o, p ++ showK d.data.toList k = o := ⟨_, rfl⟩
          rw [ho] at HIk HE HLk
          clear ho
          have k1 : decide (0 < (k : Int)) = false := by simpa using k0
          go_wp2_with (go_at_call 22; refine (put_any B B _ _ _ HIk.out (by rw [bc_len]; have := HLk.out; omega) HBs.out).mono ?_)
          rintro e w3 rfl h1 h2
          have HI3 := Lib.hid (show Lib.IsBuilder 38 5 B B (Lib.byteCells (o ++ [c])) w3 by rw [bc_app]; exact h1)
          have HB3 := Lib.hid (HBB.out.trans h2)
          clear h1 h2
          go_wp2
          exact ⟨⟨k + 1, by omega, by go_num, by rw [HE.out]; exact HI3.out, HB3.out⟩, by simp [intOf]; omega⟩
      · have hks : k = d.size := by omega
        subst hks
        obtain ⟨o, ho⟩ : ∃ o, p ++ showK d.data.toList d.size = o := ⟨_, rfl⟩
        rw [ho] at HIk H0
        clear ho
        go_wp2_with (go_at_call 23; refine (Tryd.Builder_String_any B B _ _ HIk.out HBs.out).mono ?_)
        rintro e w2 ⟨rfl, h2⟩
        have HB2 := Lib.hid (HBB.out.trans h2)
        clear h2
        go_wp2
        go_ret
        exact ⟨by rw [H0.out]; rfl, (by rw [hB]; exact HB2.out)⟩
theorem row_any (s : ByteArray) (w : World) : Calls Tryd.prog 24 #[.string s] w fun e w' => e = .returned (.string ⟨(rowL s.data.toList).toArray⟩) ∧ w' = w := by
  have HD0 := digits_any s
  have hT := fun w => Tryd.strings_TrimLeft_one ⟨(dgsL s.data.toList).toArray⟩ 48 (by decide) w
  have hr : rowL s.data.toList = trimLeftB (dgsL s.data.toList) 48 := rfl
  rw [hr]
  obtain ⟨d, hd⟩ : ∃ d : ByteArray, (⟨(dgsL s.data.toList).toArray⟩ : ByteArray) = d := ⟨_, rfl⟩
  have hdl : dgsL s.data.toList = d.data.toList := by rw [← hd]
  rw [hd] at HD0 hT
  rw [hdl]
  have HD := Lib.hid HD0
  have HT := Lib.hid hT
  clear HD0 hT hr hd hdl
  obtain ⟨r, hrr⟩ : ∃ r : ByteArray, (⟨(trimLeftB d.data.toList 48).toArray⟩ : ByteArray) = r := ⟨_, rfl⟩
  rw [hrr] at HT ⊢
  clear hrr
  go_enter Tryd.func24, Tryd.ntmps24
  go_wp2_with (first | (go_at_call 19; refine (HD.out _).mono ?_; rintro e w1 ⟨rfl, hw⟩; replace hw := hw.symm; subst hw) | (go_at_call 34; refine (HT.out _).mono ?_; rintro e w1 ⟨rfl, hw⟩; replace hw := hw.symm; subst hw))
  go_ret
  exact ⟨rfl, rfl⟩
set_option maxHeartbeats 4000000 in
theorem match_any (a b : ByteArray) (ha : a.size ≤ 1000000) (hb : b.size ≤ 1000000) (w : World) : Calls Tryd.prog 13 #[.string a, .string b] w fun e w' => e = .returned (.bool (matchB a.data.toList b.data.toList)) ∧ w' = w := by
  have hia := is_any a ha
  have hib := is_any b hb
  have hra := row_any a
  have hrb := row_any b
  have hm : matchB a.data.toList b.data.toList = (telB a.data.toList && telB b.data.toList && matchL (rowL a.data.toList) (rowL b.data.toList)) := rfl
  have hla : (rowL a.data.toList).length ≤ a.size := by
    have h1 : (rowL a.data.toList).length ≤ (dgsL a.data.toList).length := (List.dropWhile_suffix _).length_le
    have h2 := trimPrefix_le a.data.toList [43]
    have h3 : a.data.toList.length = a.size := by simp
    unfold dgsL at h1; omega
  have hlb : (rowL b.data.toList).length ≤ b.size := by
    have h1 : (rowL b.data.toList).length ≤ (dgsL b.data.toList).length := (List.dropWhile_suffix _).length_le
    have h2 := trimPrefix_le b.data.toList [43]
    have h3 : b.data.toList.length = b.size := by simp
    unfold dgsL at h1; omega
  rw [hm]
  clear hm
  obtain ⟨x, hx⟩ : ∃ x : ByteArray, (⟨(rowL a.data.toList).toArray⟩ : ByteArray) = x := ⟨_, rfl⟩
  obtain ⟨y, hy⟩ : ∃ y : ByteArray, (⟨(rowL b.data.toList).toArray⟩ : ByteArray) = y := ⟨_, rfl⟩
  have hxl : rowL a.data.toList = x.data.toList := by rw [← hx]
  have hyl : rowL b.data.toList = y.data.toList := by rw [← hy]
  rw [hx] at hra
  rw [hy] at hrb
  rw [hxl] at hla ⊢
  rw [hyl] at hlb ⊢
  have hxs : x.data.toList.length = x.size := by simp
  have hys : y.data.toList.length = y.size := by simp
  have hmm : matchL x.data.toList y.data.toList = if (x.size : Int) < (y.size : Int) then decide (5 ≤ (x.size : Int)) && hasSuffix y.data.toList x.data.toList else decide (5 ≤ (y.size : Int)) && hasSuffix x.data.toList y.data.toList := by
    unfold matchL
    rw [hxs, hys]
    by_cases h : x.size < y.size
    · rw [if_pos h, if_pos (by omega)]
    · rw [if_neg h, if_neg (by omega)]
  rw [hmm]
  rw [hxs] at hla
  rw [hys] at hlb
  have HXY := Lib.hid (fun w => Tryd.strings_HasSuffix x y w (by omega))
  have HYX := Lib.hid (fun w => Tryd.strings_HasSuffix y x w (by omega))
  obtain ⟨ta, hta⟩ : ∃ t, telB a.data.toList = t := ⟨_, rfl⟩
  obtain ⟨tb, htb⟩ : ∃ t, telB b.data.toList = t := ⟨_, rfl⟩
  obtain ⟨p, hp⟩ : ∃ t, hasSuffix x.data.toList y.data.toList = t := ⟨_, rfl⟩
  obtain ⟨q, hq⟩ : ∃ t, hasSuffix y.data.toList x.data.toList = t := ⟨_, rfl⟩
  rw [hta] at hia ⊢
  rw [htb] at hib ⊢
  rw [hp] at HXY ⊢
  rw [hq] at HYX ⊢
  have HIA := Lib.hid hia
  have HIB := Lib.hid hib
  have HRA := Lib.hid hra
  have HRB := Lib.hid hrb
  have hxI : (x.size : Int) ≤ 1000000 := by omega
  have hyI : (y.size : Int) ≤ 1000000 := by omega
  clear hia hib hra hrb hla hlb hx hy hxl hyl hxs hys hmm hta htb hp hq
  obtain ⟨r, hr⟩ : ∃ r, (ta && tb && if (x.size : Int) < (y.size : Int) then decide (5 ≤ (x.size : Int)) && q else decide (5 ≤ (y.size : Int)) && p) = r := ⟨_, rfl⟩
  rw [hr]
  have HR := Lib.hid hr
  clear hr
  cases ta with
  | false =>
    have H0 := Lib.hid (show r = false by rw [← HR.out]; rfl)
    go_enter Tryd.func13, Tryd.ntmps13
    go_wp2_with (go_at_call 9; (with_reducible refine (HIA.out _).mono ?_); rintro e w1 ⟨rfl, hw⟩; replace hw := hw.symm; subst hw)
    go_ret
    exact ⟨by rw [H0.out]; rfl, rfl⟩
  | true =>
    cases tb with
    | false =>
      have H0 := Lib.hid (show r = false by rw [← HR.out]; rfl)
      go_enter Tryd.func13, Tryd.ntmps13
      go_wp2_with (first | (go_at_call 9; (with_reducible refine (HIA.out _).mono ?_); rintro e w1 ⟨rfl, hw⟩; replace hw := hw.symm; subst hw) | (go_at_call 9; (with_reducible refine (HIB.out _).mono ?_); rintro e w1 ⟨rfl, hw⟩; replace hw := hw.symm; subst hw))
      go_ret
      exact ⟨by rw [H0.out]; rfl, rfl⟩
    | true =>
      by_cases hxy : (x.size : Int) < (y.size : Int)
      · have HR2 := Lib.hid (show r = (decide (5 ≤ (x.size : Int)) && q) by rw [← HR.out, if_pos hxy]; rfl)
        clear HR
        by_cases h5 : 5 ≤ (x.size : Int)
        · have H0 := Lib.hid (show r = q by rw [HR2.out, decide_eq_true h5]; rfl)
          go_enter Tryd.func13, Tryd.ntmps13
          go_wp2_with (first | (go_at_call 9; (with_reducible refine (HIA.out _).mono ?_); rintro e w1 ⟨rfl, hw⟩; replace hw := hw.symm; subst hw) | (go_at_call 9; (with_reducible refine (HIB.out _).mono ?_); rintro e w1 ⟨rfl, hw⟩; replace hw := hw.symm; subst hw) | (go_at_call 24; (with_reducible refine (HRA.out _).mono ?_); rintro e w1 ⟨rfl, hw⟩; replace hw := hw.symm; subst hw) | (go_at_call 24; (with_reducible refine (HRB.out _).mono ?_); rintro e w1 ⟨rfl, hw⟩; replace hw := hw.symm; subst hw) | (go_at_call 25; (with_reducible refine (HYX.out _).mono ?_); rintro e w1 ⟨rfl, hw⟩; replace hw := hw.symm; subst hw))
          go_ret
          exact ⟨by rw [H0.out]; rfl, rfl⟩
        · have h5' : decide (5 ≤ (x.size : Int)) = false := by simpa using h5
          have H0 := Lib.hid (show r = false by rw [HR2.out, h5']; rfl)
          go_enter Tryd.func13, Tryd.ntmps13
          go_wp2_with (first | (go_at_call 9; (with_reducible refine (HIA.out _).mono ?_); rintro e w1 ⟨rfl, hw⟩; replace hw := hw.symm; subst hw) | (go_at_call 9; (with_reducible refine (HIB.out _).mono ?_); rintro e w1 ⟨rfl, hw⟩; replace hw := hw.symm; subst hw) | (go_at_call 24; (with_reducible refine (HRA.out _).mono ?_); rintro e w1 ⟨rfl, hw⟩; replace hw := hw.symm; subst hw) | (go_at_call 24; (with_reducible refine (HRB.out _).mono ?_); rintro e w1 ⟨rfl, hw⟩; replace hw := hw.symm; subst hw))
          go_ret
          exact ⟨by rw [H0.out]; rfl, rfl⟩
      · have HR2 := Lib.hid (show r = (decide (5 ≤ (y.size : Int)) && p) by rw [← HR.out, if_neg hxy]; rfl)
        clear HR
        by_cases h5 : 5 ≤ (y.size : Int)
        · have H0 := Lib.hid (show r = p by rw [HR2.out, decide_eq_true h5]; rfl)
          go_enter Tryd.func13, Tryd.ntmps13
          go_wp2_with (first | (go_at_call 9; (with_reducible refine (HIA.out _).mono ?_); rintro e w1 ⟨rfl, hw⟩; replace hw := hw.symm; subst hw) | (go_at_call 9; (with_reducible refine (HIB.out _).mono ?_); rintro e w1 ⟨rfl, hw⟩; replace hw := hw.symm; subst hw) | (go_at_call 24; (with_reducible refine (HRA.out _).mono ?_); rintro e w1 ⟨rfl, hw⟩; replace hw := hw.symm; subst hw) | (go_at_call 24; (with_reducible refine (HRB.out _).mono ?_); rintro e w1 ⟨rfl, hw⟩; replace hw := hw.symm; subst hw) | (go_at_call 25; (with_reducible refine (HXY.out _).mono ?_); rintro e w1 ⟨rfl, hw⟩; replace hw := hw.symm; subst hw))
          go_ret
          exact ⟨by rw [H0.out]; rfl, rfl⟩
        · have h5' : decide (5 ≤ (y.size : Int)) = false := by simpa using h5
          have H0 := Lib.hid (show r = false by rw [HR2.out, h5']; rfl)
          go_enter Tryd.func13, Tryd.ntmps13
          go_wp2_with (first | (go_at_call 9; (with_reducible refine (HIA.out _).mono ?_); rintro e w1 ⟨rfl, hw⟩; replace hw := hw.symm; subst hw) | (go_at_call 9; (with_reducible refine (HIB.out _).mono ?_); rintro e w1 ⟨rfl, hw⟩; replace hw := hw.symm; subst hw) | (go_at_call 24; (with_reducible refine (HRA.out _).mono ?_); rintro e w1 ⟨rfl, hw⟩; replace hw := hw.symm; subst hw) | (go_at_call 24; (with_reducible refine (HRB.out _).mono ?_); rintro e w1 ⟨rfl, hw⟩; replace hw := hw.symm; subst hw))
          go_ret
          exact ⟨by rw [H0.out]; rfl, rfl⟩
end Go.Proofs.YtiikmkeolfdjiaaDoor
