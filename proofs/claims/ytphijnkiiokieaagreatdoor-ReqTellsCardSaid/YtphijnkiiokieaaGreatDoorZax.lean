/- Texts of one proof, joined. -/
import Derived.Test.YtphijnkiiokieaaGreatDoorZaw
set_option linter.unusedVariables false
set_option linter.unusedSimpArgs false
set_option maxRecDepth 100000
set_option maxHeartbeats 80000000
namespace Go.Proofs.YtphijnkiiokieaaGreatDoor
open Go.RowKit
open Go.Lib hiding intOf
theorem wpList_own_append {P : Program} {e t tx : TypeId} (w : World) {ops : Array Oper} {rest : List Oper} {o : Oper} {a : Act} {Q : Exit → Act → World → Prop} (hgd : o.guard = none) (s x : Operand)
  (ho : o.op = .call { callee := .builtin .append, args := #[s, x], argTypes := #[t, tx] }) {i : TypeInfo} {z : Value} (ht : P.underlying t = some (.slice e)) (hi : P.info? e = some i) (hz : i.zero = some z) (hsz : i.size = 1) (hby : i.bytes = 1) (hzs : z.cells.size = 1)
  {B : Nat} {v : Value} {l : List UInt8} (hv : a.eval s = v) (h : Own e B w v l) (hB : B ≤ w.heap.size) (xv : Value) (hx : a.eval x = xv) (more : List UInt8) (hs : Src P 1 tx xv more.length (more.map bv) w) (h63 : l.length + more.length ≤ 140737488355328)
  (hK : ∀ v' w', Own e B w' v' (l ++ more) → Below B w w' → wpList P ops Q rest (a.put o.dst v') w') : wpList P ops Q (o :: rest) a w := by
 refine wpList_plain hgd fun K hK' => ?_
 obtain ⟨v', w', hrun, r1, r2⟩ := own_append (P := P) (ty := o.type) ht hi hz hsz hby hzs h hB xv more hs h63
 unfold Oper.wp
 simp [execOp, ho, resolve, invoke, builtin, hv, hx, hrun, Result.andThen]
 exact hK' _ _ (hK v' w' r1 r2)
theorem one_srcb (c : UInt8) {W : World} {g : Nat} (h : Blk W g 5 #[.int .u8 (c.toNat : Int)]) :
  Src Tryz.prog 1 27 (.slice (some ⟨g, 0, none⟩) 1 1) ([c] : List UInt8).length (([c] : List UInt8).map bv) W := by
 refine Src.ofSlice W Tryz.underlying27 _ 1 1 _ rfl (fun j u hu => ?_) (fun u hu => by
  obtain ⟨x, _, rfl⟩ := List.mem_map.1 hu
  rfl)
 rw [add_plain, Nat.zero_add, h.cell j]
 simpa [bv] using hu
theorem rclean_any (s : ByteArray) (hs : s.size ≤ 1000000) (w : World) : Calls Tryz.prog 122 #[.string s] w fun e w' => e = .returned (.tuple #[.string (cleanS s).1, .int .i64 (cleanS s).2]) ∧ Below w.heap.size w w' := by
 obtain ⟨r, hr⟩ : ∃ r, cleanS s = r := ⟨_, rfl⟩; rw [hr]; have HR := Zh (show r = cleanOf (validD s.data.toList) (s.data.toList.any ctl) (squeezeS s) by rw [← hr]; rfl); clear hr; have HS := Zh (sign_any s hs); have HL := Zh (show s.data.toList.length = s.size by simp); obtain ⟨i0, hi0, hz0, hz1, hz2⟩ := info_parts info5
 go_enter Tryz.func122, Tryz.ntmps122
 go_wp2
 go_loop [4] (fun i => ∃ k : Nat, k ≤ s.size ∧ i = .int .i64 (k : Int) ∧ validD s.data.toList = validD (s.data.toList.drop k) ∧ s.data.toList.any ctl = (s.data.toList.drop k).any ctl) (fun i => s.size - (intOf i).toNat)
 case atStart => exact ⟨0, by omega, rfl, by simp, by simp⟩
 case round =>
  obtain ⟨k, hk, rfl, h1, h2⟩ := hrel; have H1 := Zh h1; have H2 := Zh h2; clear h1 h2
  by_cases hlt : k < s.size
  ·
   have hne : s.data.toList.drop k ≠ [] := fun e => by have := congrArg List.length e; simp at this; omega
   have HV := Zh (signN_valid _ hne); have HW := Zh (signN_width _ hne); have HCT := Zh (sign_ctl _ hne); have HCA := Zh (ctl_any _ hne); have HG := Zh (drop_getD0 s k hlt); have HD := Zh (fun x => (List.drop_drop : (s.data.toList.drop k).drop x = s.data.toList.drop (k + x))); have HLe := Zh (show (s.data.toList.drop k).length = s.size - k by simp); have hS := HS.out k hlt; obtain ⟨x, hx⟩ : ∃ x, signN (s.data.toList.drop k) = x := ⟨_, rfl⟩; rw [hx] at HV HW hS HCT; rw [HG.out] at HCT HCA; have HSx := Zh hS; obtain ⟨c, hc⟩ : ∃ c, s[k] = c := ⟨_, rfl⟩; rw [hc] at HCT HCA; clear hS hx hne HG
   cases x with
   | zero =>
    have H0 := Zh (show r = (⟨#[]⟩, 1) by rw [HR.out, H1.out, HV.out]; rfl)
    go_wp2_with (go_at_call 136; refine (HSx.out _).mono ?_; rintro e w1 ⟨rfl, hw1⟩; replace hw1 := hw1.symm; subst hw1)
    go_ret2
    exact ⟨by rw [H0.out]; rfl, Below.refl _ _⟩
   | succ x =>
    have hw := (HW.out (by omega)).2.2; rw [HLe.out] at hw; have x0 : (((x : Int) + 1) == 0) = false := by rw [beq_eq_false_iff_ne]; omega
    by_cases u1 : (c.toNat : Int) < 32
    ·
     have H0 := Zh (show r = (⟨#[]⟩, 1) by rw [HR.out, H2.out, HCA.out (by unfold ctl; simp only [u1, decide_true, Bool.true_or])]; unfold cleanOf; rw [if_pos (by simp)])
     go_wp2_with (go_at_call 136; refine (HSx.out _).mono ?_; rintro e w1 ⟨rfl, hw1⟩; replace hw1 := hw1.symm; subst hw1)
     go_ret2
     exact ⟨by rw [H0.out]; rfl, Below.refl _ _⟩
    ·
     by_cases u2 : (c.toNat : Int) = 127
     ·
      have u2' : ((c.toNat : Int) == 127) = true := by rw [u2]; rfl
      have H0 := Zh (show r = (⟨#[]⟩, 1) by rw [HR.out, H2.out, HCA.out (by unfold ctl; rw [u2']; simp)]; unfold cleanOf; rw [if_pos (by simp)]); clear u2
      go_wp2_with (go_at_call 136; refine (HSx.out _).mono ?_; rintro e w1 ⟨rfl, hw1⟩; replace hw1 := hw1.symm; subst hw1)
      go_ret2
      exact ⟨by rw [H0.out]; rfl, Below.refl _ _⟩
     ·
      have u2' : ((c.toNat : Int) == 127) = false := by simpa using u2
      have hcf := HCT.out (by omega) (by unfold ctl; rw [u2']; simpa using u1); have HCF := Zh hcf; have u1' : decide ((c.toNat : Int) < 32) = false := by simpa using u1
      clear hcf
      go_wp2_with (go_at_call 136; refine (HSx.out _).mono ?_; rintro e w1 ⟨rfl, hw1⟩; replace hw1 := hw1.symm; subst hw1)
      exact ⟨⟨k + (x + 1), by omega, by go_num, by rw [H1.out, HV.out, HD.out]; simp, by rw [H2.out, HCF.out, HD.out]⟩, by simp [intOf]; omega⟩
  ·
   have hks : k = s.size := by omega
   subst hks; have HR2 := Zh (show r = cleanOf true false (squeezeS s) by
    have e : s.data.toList.drop s.size = [] := List.drop_of_length_le (by simp); have h1 := H1.out; have h2 := H2.out; rw [e] at h1 h2
    rw [HR.out, h1, h2]; rfl)
   clear H1 H2 HR
   go_wp2
   go_loopw [6, 7] (fun v i wr => ∃ k : Nat, k ≤ s.size ∧ i = .int .i64 (k : Int) ∧ Own 5 w.heap.size wr v (outS (sqAt s.data.toList k)) ∧ Below w.heap.size w wr) (fun _ i _ => s.size - (intOf i).toNat)
   case atStart => exact ⟨0, Nat.zero_le _, rfl, Own.nil 5 _ _ _, Below.refl _ _⟩
   case round =>
    obtain ⟨k, hk, rfl, ho, hb⟩ := hrel; have HB := Zh hb; have HX := Zh (sq_last s.data.toList k (by simpa using hk)); have HLN := Zh (out_len s.data.toList k (by simpa using hk)); have HSU := Zh (fun h => sqAt_succ s.data.toList k h); obtain ⟨X, hX⟩ : ∃ X, sqAt s.data.toList k = X := ⟨_, rfl⟩; rw [hX] at HX HLN HSU ho; obtain ⟨A, cap, b, hv, hle, hmax, ha, hbb, hcell⟩ := ho.reads; subst hv; have HO := Zh ho; have HXX := Zh hX; clear hb hX ho
    by_cases hlt : k < s.size
    ·
     have hkl : k < s.data.toList.length := by simpa using hlt
     obtain ⟨c, hc⟩ : ∃ c, s[k] = c := ⟨_, rfl⟩; have HC := Zh (show s.data.toList[k] = c from by rw [← hc]; rfl); have HSX := Zh (show sqAt s.data.toList (k + 1) = sqStep X c by rw [HSU.out hkl, HC.out]); clear HSU
     by_cases u : (c.toNat : Int) = 32
     ·
      have u' : ((c.toNat : Int) == 32) = true := by rw [u]; rfl
      have HN := Zh (out_blank X c u HX.out); have e32 := Zh (show ([c] : List UInt8) = [32] by
       have : c = 32 := UInt8.toNat_inj.1 (by show c.toNat = 32; omega)
       rw [this])
      obtain ⟨O, hO⟩ : ∃ O, outS X = O := ⟨_, rfl⟩; simp only [hO] at HO HLN hle hcell ha hbb HN ⊢; have HX2 := Zh hO; clear hO u
      rcases List.eq_nil_or_concat O with rfl | ⟨O', d, rfl⟩
      ·
       have HA := Zh ha; have HCE := Zh hcell; have HE := Zh (show outS (sqAt s.data.toList (k + 1)) = [] by rw [HSX.out]; exact HN.out.1 (.inl rfl)); clear ha hcell hbb
       go_wp2
       exact ⟨⟨k + 1, by omega, by go_num, by rw [HE.out]; exact HO.out, HB.out⟩, by simp [intOf]; omega⟩
      ·
       rw [List.concat_eq_append] at HO HLN hle hcell ha hbb HN HX2 ⊢; have hcd := hcell O'.length d (by simp); obtain ⟨hA, hblt⟩ := ha (by simp); subst hA; have HLA := Zh (show (O' ++ [d]).getLast? = some d by simp); have HLL := Zh (show (O' ++ [d]).length = O'.length + 1 by simp); rw [HLL.out] at HO HLN hle ⊢; rw [Nat.zero_add] at hcd; obtain ⟨m, hm⟩ : ∃ m, O'.length = m := ⟨_, rfl⟩; rw [hm] at HO HLN hle hcd HLL ⊢; have hm1 : m + 1 ≤ 1000000 := by have := HLN.out; omega
       have HCE := Zh hcell; clear hcell hbb ha hm; obtain ⟨O, hO⟩ : ∃ O, O' ++ [d] = O := ⟨_, rfl⟩; rw [hO] at HO HN HX2 HLA HLL HCE; clear hO; have x0 : (((m : Int) + 1) == 0) = false := by rw [beq_eq_false_iff_ne]; omega
       by_cases ud : (d.toNat : Int) = 32
       ·
        have ud' : ((d.toNat : Int) == 32) = true := by rw [ud]; rfl
        have HE := Zh (show outS (sqAt s.data.toList (k + 1)) = O by
         rw [HSX.out]
         exact HN.out.1 (.inr (by rw [HLA.out]; congr 1; exact UInt8.toNat_inj.1 (by show d.toNat = 32; omega))))
        clear ud
        go_wp2
        exact ⟨⟨k + 1, by omega, by go_num, by rw [HE.out]; exact HO.out, HB.out⟩, by simp [intOf]; omega⟩
       ·
        have ud' : ((d.toNat : Int) == 32) = false := by simpa using ud
        have HE := Zh (show outS (sqAt s.data.toList (k + 1)) = O ++ [c] by
         rw [HSX.out, e32.out]
         exact HN.out.2 (fun e => by have := HLL.out; rw [e] at this; simp at this) (by rw [HLA.out]; intro e; obtain rfl := Option.some.inj e; exact ud rfl))
        clear ud
        go_wp2_with (
         at_builtin
         refine wpList_own_append (e := 5) (t := 27) (tx := 27) (z := .int .u8 0) (i := i0) (B := w.heap.size) (v := .slice (some ⟨b, 0, none⟩) (m + 1) cap) (l := O) _ rfl (.tmp 56) (.tmp 60) rfl Tryz.underlying27 hi0 hz0 hz1 hz2 rfl rfl (HO.out.below ((Below.refl _ _).alloc (Nat.le_refl _) _)) ?hB1 (.slice (some ⟨wr.heap.size, 0, none⟩) 1 1) rfl [c] (one_srcb c (Blk.new _ _ _)) ?h63_1 ?hK1
         case hB1 => (have := HB.out.size; simp; omega)
         case h63_1 => (have := HLN.out; have := HLL.out; simp; omega)
         intro v2 w2 h1 h2; have HO2 := Zh h1; have H2 := Zh ((HB.out.alloc HB.out.size _).trans h2)
         clear h1 h2)
        exact ⟨⟨k + 1, by omega, by go_num, by rw [HE.out]; exact HO2.out, H2.out⟩, by simp [intOf]; omega⟩
     ·
      have u' : ((c.toNat : Int) == 32) = false := by simpa using u
      have HN := Zh (show outS (sqAt s.data.toList (k + 1)) = outS X ++ [c] by rw [HSX.out, out_other X c u]); obtain ⟨O, hO⟩ : ∃ O, outS X = O := ⟨_, rfl⟩; simp only [hO] at HO HLN hle hcell ha hbb HN ⊢; obtain ⟨L, hL⟩ : ∃ L, O.length = L := ⟨_, rfl⟩; simp only [hL] at HO HLN hle ha hbb ⊢; have HLL := Zh hL; have HA := Zh ha; have HCE := Zh hcell; clear hL hO u ha hcell hbb
      go_wp2_with (
       at_builtin
       refine wpList_own_append (e := 5) (t := 27) (tx := 27) (z := .int .u8 0) (i := i0) (B := w.heap.size) (v := .slice A L cap) (l := O) _ rfl (.tmp 56) (.tmp 60) rfl Tryz.underlying27 hi0 hz0 hz1 hz2 rfl rfl (HO.out.below ((Below.refl _ _).alloc (Nat.le_refl _) _)) ?hB2 (.slice (some ⟨wr.heap.size, 0, none⟩) 1 1) rfl [c] (one_srcb c (Blk.new _ _ _)) ?h63_2 ?hK2
       case hB2 => (have := HB.out.size; simp; omega)
       case h63_2 => (have := HLN.out; have := HLL.out; simp; omega)
       intro v2 w2 h1 h2; have HO2 := Zh h1; have H2 := Zh ((HB.out.alloc HB.out.size _).trans h2)
       clear h1 h2)
      exact ⟨⟨k + 1, by omega, by go_num, by rw [HN.out]; exact HO2.out, H2.out⟩, by simp [intOf]; omega⟩
    ·
     have hks : k = s.size := by omega
     subst hks; have HSQ := Zh (show squeezeS s = ⟨X.2.toArray⟩ by unfold squeezeS; rw [HXX.out]); have HF := Zh (out_fin X HX.out); obtain ⟨O, hO⟩ : ∃ O, outS X = O := ⟨_, rfl⟩; simp only [hO] at HO HLN hle hcell ha hbb HF ⊢; clear hO HSU HX; have hfin : ∀ (l : List UInt8), X.2 = l → l ≠ [] → r = if 64 < (l.length : Int) then (⟨#[]⟩, 2) else (⟨l.toArray⟩, 0) := by
      intro l e hne; rw [HR2.out, HSQ.out, e]
      unfold cleanOf
      rw [if_neg (by decide), if_neg (fun h => hne (by have := congrArg (fun b : ByteArray => b.data.toList) h; simpa using this))]
      rfl
     have HFin := Zh hfin; clear hfin
     rcases List.eq_nil_or_concat O with rfl | ⟨O', d, rfl⟩
     ·
      have H0 := Zh (show r = (⟨#[]⟩, 14) by
       rw [HR2.out, HSQ.out, HF.out.2 (by simp)]; rfl)
      have HA := Zh ha; have HCE := Zh hcell; clear ha hcell hbb
      go_wp2
      go_ret2
      exact ⟨by rw [H0.out]; rfl, HB.out⟩
     ·
      rw [List.concat_eq_append] at HO HLN hle hcell ha hbb HF ⊢; have hcd := hcell O'.length d (by simp); obtain ⟨hA, hblt⟩ := ha (by simp); subst hA; have HLA := Zh (show (O' ++ [d]).getLast? = some d by simp); have HDL := Zh (show (O' ++ [d]).dropLast = O' by simp); have HLL := Zh (show (O' ++ [d]).length = O'.length + 1 by simp); have hcv0 : (convert 27 9 (.slice (some ⟨b, 0, none⟩) O'.length cap)).run Tryz.prog wr = .ok (.string ⟨O'.toArray⟩) wr :=
       run_convert_bytes_back _ 27 9 5 _ cap O' Tryz.underlying27 Tryz.underlying5 Tryz.underlying9 (fun j hj => by rw [add_plain]; exact hcell j _ (by rw [List.getElem?_append_left hj]; exact List.getElem?_eq_getElem hj))
      have hcv1 : (convert 27 9 (.slice (some ⟨b, 0, none⟩) (O' ++ [d]).length cap)).run Tryz.prog wr = .ok (.string ⟨(O' ++ [d]).toArray⟩) wr :=
       run_convert_bytes_back _ 27 9 5 _ cap _ Tryz.underlying27 Tryz.underlying5 Tryz.underlying9 (fun j hj => by rw [add_plain]; exact hcell j _ (List.getElem?_eq_getElem hj))
      have HP := Zh (fun h => HFin.out O' h); rw [HLL.out] at HO HLN hle hcv1 ⊢; rw [Nat.zero_add] at hcd; obtain ⟨m, hm⟩ : ∃ m, O'.length = m := ⟨_, rfl⟩; rw [hm] at HO HLN hle hcd HLL HP hcv0 hcv1 ⊢; have hm1 : m + 1 ≤ 1000000 := by have := HLN.out; omega
      have HCE := Zh hcell; have HM := Zh hm; clear hcell hbb ha hm; obtain ⟨O, hO⟩ : ∃ O, O' ++ [d] = O := ⟨_, rfl⟩; rw [hO] at HO HF HLA HLL HCE hcv1 HDL; clear hO
      by_cases ud : (d.toNat : Int) = 32
      ·
       have ud' : ((d.toNat : Int) == 32) = true := by rw [ud]; rfl
       obtain ⟨h1, h2⟩ := HF.out.1 (by rw [HLA.out]; congr 1; exact UInt8.toNat_inj.1 (by show d.toNat = 32; omega)); have h3 := HP.out (h1.trans HDL.out) (by rw [← HDL.out, ← h1]; exact h2); have hm0 : 0 < m := by
        rcases Nat.eq_zero_or_pos m with h | h
        ·
         have : O' = [] := List.eq_nil_of_length_eq_zero (by rw [HM.out, h]); rw [h1, HDL.out] at h2
         exact absurd this h2
        ·
         exact h
       have x0 : ((m : Int) == 0) = false := by rw [beq_eq_false_iff_ne]; omega
       have H3 := Zh h3; clear ud h1 h2 h3 hcv1
       by_cases h64 : 64 < (m : Int)
       ·
        have H0 := Zh (show r = (⟨#[]⟩, 2) by rw [H3.out, if_pos h64])
        go_wp2
        go_ret2
        exact ⟨by rw [H0.out]; rfl, HB.out⟩
       ·
        have H0 := Zh (show r = (⟨O'.toArray⟩, 0) by rw [H3.out, if_neg h64])
        go_wp2
        go_ret2
        exact ⟨by rw [H0.out]; rfl, HB.out⟩
      ·
       have ud' : ((d.toNat : Int) == 32) = false := by simpa using ud
       have h1 := HF.out.2 (by rw [HLA.out]; intro e; obtain rfl := Option.some.inj e; exact ud rfl); have h3 := HFin.out O h1 (fun e => by have := HLL.out; rw [e] at this; simp at this); rw [HLL.out] at h3; have x0 : (((m : Int) + 1) == 0) = false := by rw [beq_eq_false_iff_ne]; omega
       have H3 := Zh h3; clear ud h1 h3 hcv0
       by_cases h64 : 64 < (m : Int) + 1
       ·
        have H0 := Zh (show r = (⟨#[]⟩, 2) by rw [H3.out, if_pos (by omega)])
        go_wp2
        go_ret2
        exact ⟨by rw [H0.out]; rfl, HB.out⟩
       ·
        have H0 := Zh (show r = (⟨O.toArray⟩, 0) by rw [H3.out, if_neg (by omega)])
        go_wp2
        go_ret2
        exact ⟨by rw [H0.out]; rfl, HB.out⟩
theorem digit_any (c : UInt8) (w : World) : Calls Tryz.prog 68 #[.int .u8 (c.toNat : Int)] w fun e w' => e = .returned (.bool (isDig c)) ∧ w' = w := by
  have hc8 : (c.toNat : Int) ≤ 255 := by have := c.toNat_lt; omega
  obtain ⟨r, hr⟩ : ∃ r, isDig c = r := ⟨_, rfl⟩; rw [hr]; have HR := Zh (show r = (decide (48 ≤ (c.toNat : Int)) && decide ((c.toNat : Int) ≤ 57)) by rw [← hr]; rfl); clear hr
  by_cases u1 : 48 ≤ (c.toNat : Int)
  · by_cases u2 : (c.toNat : Int) ≤ 57
    · have e := Zh (show r = true by rw [HR.out]; simp [u1, u2])
      go_enter Tryz.func68, Tryz.ntmps68
      go_wp2
      go_ret
      exact ⟨by rw [e.out]; rfl, rfl⟩
    · have u2' : decide ((c.toNat : Int) ≤ 57) = false := by simpa using u2
      have e := Zh (show r = false by rw [HR.out, u2']; simp)
      go_enter Tryz.func68, Tryz.ntmps68
      go_wp2
      go_ret
      exact ⟨by rw [e.out]; rfl, rfl⟩
  · have u1' : decide (48 ≤ (c.toNat : Int)) = false := by simpa using u1
    have e := Zh (show r = false by rw [HR.out, u1']; simp)
    go_enter Tryz.func68, Tryz.ntmps68
    go_wp2
    go_ret
    exact ⟨by rw [e.out]; rfl, rfl⟩
theorem dgs_cons (s : ByteArray) (h : 0 < s.size) : (s[0] = 43 → dgsL s.data.toList = (s.extract 1 s.size).data.toList) ∧ (s[0] ≠ 43 → dgsL s.data.toList = s.data.toList) := by
  have e : s.data.toList = s[0] :: s.data.toList.drop 1 := by
    cases hl : s.data.toList with
    | nil => have : s.data.toList.length = s.size := by simp
             rw [hl] at this; simp at this; omega
    | cons c t =>
      have h0 : s.data.toList[0]? = some c := by rw [hl]; rfl
      have h1 : s.data.toList[0]? = some s[0] := by rw [List.getElem?_eq_getElem (by simpa using h)]; rfl
      rw [h1] at h0
      rw [Option.some.inj h0]; rfl
  have hx : (s.extract 1 s.size).data.toList = s.data.toList.drop 1 := by simp [List.take_of_length_le]
  constructor
  · intro h0
    rw [hx]
    unfold dgsL trimPrefix
    rw [if_pos (by rw [e, h0]; simp [hasPrefix, List.isPrefixOf])]
    rfl
  · intro h0
    unfold dgsL trimPrefix
    rw [if_neg]; rw [e]; simp only [hasPrefix, List.isPrefixOf, Bool.and_true, beq_iff_eq]
    exact fun h => h0 h.symm
theorem dgs_empty (s : ByteArray) (h : s.size = 0) : dgsL s.data.toList = s.data.toList := by
  have : s.data.toList = [] := List.eq_nil_of_length_eq_zero (by simpa using h)
  rw [this]; rfl
def telD (d : ByteArray) : Bool := decide (3 ≤ (d.size : Int)) && decide ((d.size : Int) ≤ 15) && d.data.toList.all isDig
theorem ristel_any (s : ByteArray) (hs : s.size ≤ 1000000) (w : World) : Calls Tryz.prog 133 #[.string s] w fun e w' => e = .returned (.bool (telB s.data.toList)) ∧ w' = w := by
  have hcs := dgs_cons s; have hem := dgs_empty s; have hr : telB s.data.toList = (decide (3 ≤ ((dgsL s.data.toList).length : Int)) && decide (((dgsL s.data.toList).length : Int) ≤ 15) && (dgsL s.data.toList).all isDig) := rfl; obtain ⟨r, hrr⟩ : ∃ r, telB s.data.toList = r := ⟨_, rfl⟩; rw [hrr] at hr ⊢; clear hrr; have HDG := Zh digit_any; have fin : ∀ d : ByteArray, dgsL s.data.toList = d.data.toList → r = telD d := by
    intro d hd; have : d.data.toList.length = d.size := by simp
    rw [hr, hd, this]; rfl
  have HFin := Zh fin; clear fin hr; have hsI : (s.size : Int) ≤ 1000000 := by omega
  rcases (show s.size = 0 ∨ (∃ h : 0 < s.size, s[0] = 43) ∨ (∃ h : 0 < s.size, s[0] ≠ 43) by
    rcases Nat.eq_zero_or_pos s.size with h | h
    · exact .inl h
    · by_cases h43 : s[0] = 43
      · exact .inr (.inl ⟨h, h43⟩)
      · exact .inr (.inr ⟨h, h43⟩)) with h0 | ⟨h0, h43⟩ | ⟨h0, h43⟩
  · have HR := Zh (HFin.out s (hem h0))
    have H0 := Zh (show r = false by rw [HR.out]; unfold telD; rw [decide_eq_false (show ¬ (3 ≤ (s.size : Int)) by omega)]; rfl); have hz : (s.size : Int) = 0 := by omega
    clear hcs hem h0
    go_enter Tryz.func133, Tryz.ntmps133
    go_wp2
    go_loop [3] (fun i => i = .int .i64 0) (fun i => 0)
    case atStart => rfl
    case round =>
      subst hrel
      go_wp2
      go_ret
      exact ⟨by rw [H0.out]; rfl, rfl⟩
  · have hd0 := (hcs h0).1 h43
    have hc0 : (s[0].toNat : Int) = 43 := by rw [h43]; rfl
    have hc1 : ((s[0].toNat : Int) == 43) = true := by rw [hc0]; rfl
    have hxz : ((s.extract 1 s.size).size : Int) ≤ 1000000 := by rw [ByteArray.size_extract]; omega
    obtain ⟨d, hd⟩ : ∃ d, s.extract 1 s.size = d := ⟨_, rfl⟩; rw [hd] at hd0 hxz; have HR := Zh (show r = (decide (3 ≤ (d.size : Int)) && decide ((d.size : Int) ≤ 15) && d.data.toList.all isDig) from HFin.out d hd0); have h0I : 0 < (s.size : Int) := by omega
    clear hcs hem hd0 h43 hc0 HFin
    go_enter Tryz.func133, Tryz.ntmps133
    go_wp2
    go_loop [3] (fun i => ∃ k : Nat, k ≤ d.size ∧ i = .int .i64 (k : Int) ∧ (d.data.toList.take k).all isDig = true) (fun i => d.size - (intOf i).toNat)
    case atStart => exact ⟨0, Nat.zero_le _, rfl, by simp⟩
    case round =>
      obtain ⟨k, hk, rfl, hno⟩ := hrel; have HN := Zh hno; clear hno
      by_cases hlt : k < d.size
      · have HT := Zh (all_take_snoc d k hlt)
        have HM := Zh (all_miss d k hlt); obtain ⟨c, hc⟩ : ∃ c, d[k] = c := ⟨_, rfl⟩; rw [hc] at HT HM
        cases hdc : isDig c with
        | false =>
          have H0 := Zh (show r = false by rw [HR.out, HM.out hdc]; simp); have HC := Zh (fun w => digit_any c w); rw [hdc] at HC; clear hdc
          go_wp2_with (go_at_call 68; (with_reducible refine (HC.out _).mono ?_); rintro e w1 ⟨rfl, hw⟩; replace hw := hw.symm; subst hw)
          go_ret
          exact ⟨by rw [H0.out]; rfl, rfl⟩
        | true =>
          have HE := Zh (show (d.data.toList.take (k + 1)).all isDig = true by rw [HT.out, HN.out, hdc]; rfl); have HC := Zh (fun w => digit_any c w); rw [hdc] at HC; clear hdc
          go_wp2_with (go_at_call 68; (with_reducible refine (HC.out _).mono ?_); rintro e w1 ⟨rfl, hw⟩; replace hw := hw.symm; subst hw)
          exact ⟨⟨k + 1, by omega, by go_num, HE.out⟩, by simp [intOf]; omega⟩
      · have hks : k = d.size := by omega
        subst hks; have HR2 := Zh (show r = (decide (3 ≤ (d.size : Int)) && decide ((d.size : Int) ≤ 15)) by
          have h1 := HN.out; rw [List.take_of_length_le (by simp)] at h1
          rw [HR.out, h1, Bool.and_true])
        by_cases u3 : 3 ≤ (d.size : Int)
        · have HR3 := Zh (show r = decide ((d.size : Int) ≤ 15) by rw [HR2.out, decide_eq_true u3, Bool.true_and])
          go_wp2
          go_ret
          exact ⟨by rw [HR3.out]; rfl, rfl⟩
        · have u3' : decide (3 ≤ (d.size : Int)) = false := by simpa using u3
          have H0 := Zh (show r = false by rw [HR2.out, u3']; rfl)
          go_wp2
          go_ret
          exact ⟨by rw [H0.out]; rfl, rfl⟩
  · have hd0 := (hcs h0).2 h43
    have hc1 : ((s[0].toNat : Int) == 43) = false := by
      rw [beq_eq_false_iff_ne]; intro e; exact h43 (UInt8.toNat_inj.1 (by show s[0].toNat = 43; omega))
    have HR := Zh (show r = (decide (3 ≤ (s.size : Int)) && decide ((s.size : Int) ≤ 15) && s.data.toList.all isDig) from HFin.out s hd0); have h0I : 0 < (s.size : Int) := by omega
    clear hcs hem hd0 h43 HFin
    go_enter Tryz.func133, Tryz.ntmps133
    go_wp2
    go_loop [3] (fun i => ∃ k : Nat, k ≤ s.size ∧ i = .int .i64 (k : Int) ∧ (s.data.toList.take k).all isDig = true) (fun i => s.size - (intOf i).toNat)
    case atStart => exact ⟨0, Nat.zero_le _, rfl, by simp⟩
    case round =>
      obtain ⟨k, hk, rfl, hno⟩ := hrel; have HN := Zh hno; clear hno
      by_cases hlt : k < s.size
      · have HT := Zh (all_take_snoc s k hlt)
        have HM := Zh (all_miss s k hlt); obtain ⟨c, hc⟩ : ∃ c, s[k] = c := ⟨_, rfl⟩; rw [hc] at HT HM
        cases hdc : isDig c with
        | false =>
          have H0 := Zh (show r = false by rw [HR.out, HM.out hdc]; simp); have HC := Zh (fun w => digit_any c w); rw [hdc] at HC; clear hdc
          go_wp2_with (go_at_call 68; (with_reducible refine (HC.out _).mono ?_); rintro e w1 ⟨rfl, hw⟩; replace hw := hw.symm; subst hw)
          go_ret
          exact ⟨by rw [H0.out]; rfl, rfl⟩
        | true =>
          have HE := Zh (show (s.data.toList.take (k + 1)).all isDig = true by rw [HT.out, HN.out, hdc]; rfl); have HC := Zh (fun w => digit_any c w); rw [hdc] at HC; clear hdc
          go_wp2_with (go_at_call 68; (with_reducible refine (HC.out _).mono ?_); rintro e w1 ⟨rfl, hw⟩; replace hw := hw.symm; subst hw)
          exact ⟨⟨k + 1, by omega, by go_num, HE.out⟩, by simp [intOf]; omega⟩
      · have hks : k = s.size := by omega
        subst hks; have HR2 := Zh (show r = (decide (3 ≤ (s.size : Int)) && decide ((s.size : Int) ≤ 15)) by
          have h1 := HN.out; rw [List.take_of_length_le (by simp)] at h1
          rw [HR.out, h1, Bool.and_true])
        by_cases u3 : 3 ≤ (s.size : Int)
        · have HR3 := Zh (show r = decide ((s.size : Int) ≤ 15) by rw [HR2.out, decide_eq_true u3, Bool.true_and])
          go_wp2
          go_ret
          exact ⟨by rw [HR3.out]; rfl, rfl⟩
        · have u3' : decide (3 ≤ (s.size : Int)) = false := by simpa using u3
          have H0 := Zh (show r = false by rw [HR2.out, u3']; rfl)
          go_wp2
          go_ret
          exact ⟨by rw [H0.out]; rfl, rfl⟩
theorem cut_one (s : ByteArray) (k : Nat) (h : k < s.size) : (s.extract k (k + 1)).data.toList = [s[k]] := by
 have hl : k < s.data.toList.length := by simpa using h
 have : (s.extract k (k + 1)).data.toList = (s.data.toList.drop k).take 1 := by simp
 rw [this, List.drop_eq_getElem_cons hl]
 rfl
theorem cut_size (s : ByteArray) (k : Nat) (h : k < s.size) : (s.extract k (k + 1)).size = 1 := by
 rw [ByteArray.size_extract]; omega
theorem one_cut (s : ByteArray) (k : Nat) (h : k < s.size) (W : World) : (Instr.slice 9 (.string s) (some (.int .i64 (k : Int))) (some (.int .i64 ((k : Int) + 1))) none).run Tryz.prog W = .ok (.string (s.extract k (k + 1))) W := by
 have h := run_slice_string (P := Tryz.prog) (w := W) 9 s .i64 .i64 (k : Int) ((k : Int) + 1) Tryz.underlying9 (by omega) (by omega) (by omega); rw [h]
 congr 2
theorem tapp_list (a b : ByteArray) : (a ++ b).data.toList = a.data.toList ++ b.data.toList := by simp [ByteArray.data_append]
theorem rtel_any (s : ByteArray) (hs : s.size ≤ 1000000) (w : World) : Calls Tryz.prog 120 #[.string s] w fun e w' => e = .returned (.tuple #[.string (telS s).1, .int .i64 (telS s).2]) ∧ Below w.heap.size w w' := by
 have hC := rclean_any s hs w; have htz : (cleanS s).1.size ≤ 1000000 := by
  unfold cleanS cleanOf
  have h1 := sq_len s.data.toList; have h2 : (squeezeS s).size ≤ 1000000 := by rw [squeezeS_sq]; show (sq s.data.toList).toArray.size ≤ _; simp at h1 ⊢; omega
  repeat' split
  all_goals first | (show (squeezeS s).size ≤ 1000000; omega) | (show (0 : Nat) ≤ 1000000; omega)
 obtain ⟨r, hr⟩ : ∃ r, telS s = r := ⟨_, rfl⟩; rw [hr]; have hrr : r = telOf (cleanS s).1 (cleanS s).2 := by rw [← hr]; rfl
 clear hr; obtain ⟨⟨t, k⟩, ht⟩ : ∃ t, cleanS s = t := ⟨_, rfl⟩; rw [ht] at hC htz hrr; simp only at hC htz hrr; have HC := Zh hC; have HR := Zh hrr; have HI := Zh ristel_any; clear hC ht hrr; have htI : (t.size : Int) ≤ 1000000 := by omega
 by_cases hk : k = 0
 ·
  subst hk; have HR2 := Zh (show r = if telB (bareL t.data.toList) = true then (⟨(bareL t.data.toList).toArray⟩, 0) else (⟨#[]⟩, 1) by rw [HR.out]; rfl); clear HR
  go_enter Tryz.func120, Tryz.ntmps120
  go_wp2_with (go_at_call 122; (with_reducible refine (HC.out).mono ?_); rintro e w1 ⟨rfl, h1⟩; have HB1 := Zh h1; clear h1)
  go_loop [6, 7] (fun o i => ∃ k : Nat, ∃ O : ByteArray, k ≤ t.size ∧ i = .int .i64 (k : Int) ∧ o = .string O ∧ O.data.toList = bareL (t.data.toList.take k) ∧ (O.size : Int) ≤ (k : Int)) (fun _ i => t.size - (intOf i).toNat)
  case atStart => exact ⟨0, ⟨#[]⟩, Nat.zero_le _, rfl, rfl, rfl, by show ((0 : Nat) : Int) ≤ 0; omega⟩
  case round =>
   obtain ⟨k, O, hk, rfl, rfl, hO, hOz⟩ := hrel; have HO := Zh hO; clear hO
   by_cases hlt : k < t.size
   ·
    have HSN := Zh (bare_snoc t k hlt); have HCU := Zh (cut_one t k hlt); have hcut := one_cut t k hlt; have hcz : ((t.extract k (k + 1)).size : Int) = 1 := by rw [cut_size t k hlt]; rfl
    obtain ⟨c, hc⟩ : ∃ c, t[k] = c := ⟨_, rfl⟩; rw [hc] at HSN HCU; have hc8 : (c.toNat : Int) ≤ 255 := by have := c.toNat_lt; omega
    have HAL := Zh (tapp_list O (t.extract k (k + 1))); have HAZ := Zh (show (O ++ t.extract k (k + 1)).size = O.size + (t.extract k (k + 1)).size from ByteArray.size_append)
    rcases (show (c.toNat : Int) = 32 ∨ (c.toNat : Int) = 45 ∨ (c.toNat : Int) = 46 ∨ (c.toNat : Int) = 47 ∨ (c.toNat : Int) = 40 ∨ (c.toNat : Int) = 41 ∨ ((c.toNat : Int) ≠ 32 ∧ (c.toNat : Int) ≠ 45 ∧ (c.toNat : Int) ≠ 46 ∧ (c.toNat : Int) ≠ 47 ∧ (c.toNat : Int) ≠ 40 ∧ (c.toNat : Int) ≠ 41) by omega) with h | h | h | h | h | h | ⟨n1, n2, n3, n4, n5, n6⟩
    iterate 6
     ·
      have hcc : betw c = true := by
       have e : c = UInt8.ofNat c.toNat := by simp
       have e2 : c.toNat = ((c.toNat : Int)).toNat := rfl
       rw [e, e2, h]; decide
      have HE := Zh (show O.data.toList = bareL (t.data.toList.take (k + 1)) by rw [HSN.out, show bareL [c] = [] by simp [bareL, hcc], List.append_nil, HO.out]); clear hcc hcz hcut
      go_wp2
      exact ⟨⟨k + 1, O, by omega, by go_num, rfl, HE.out, by omega⟩, by simp [intOf]; omega⟩
    ·
     have hcc : betw c = false := by
      cases e : betw c with
      | false => rfl
      | true =>
       unfold betw at e
       simp only [Bool.or_eq_true, beq_iff_eq] at e
       rcases e with ((((e | e) | e) | e) | e) | e <;> subst e
       ·
        exact absurd rfl n1
       ·
        exact absurd rfl n2
       ·
        exact absurd rfl n3
       ·
        exact absurd rfl n4
       ·
        exact absurd rfl n5
       ·
        exact absurd rfl n6
     have m1 : ((c.toNat : Int) == 32) = false := by simpa using n1
     have m2 : ((c.toNat : Int) == 45) = false := by simpa using n2
     have m3 : ((c.toNat : Int) == 46) = false := by simpa using n3
     have m4 : ((c.toNat : Int) == 47) = false := by simpa using n4
     have m5 : ((c.toNat : Int) == 40) = false := by simpa using n5
     have m6 : ((c.toNat : Int) == 41) = false := by simpa using n6
     have HE := Zh (show (O ++ t.extract k (k + 1)).data.toList = bareL (t.data.toList.take (k + 1)) by rw [HSN.out, show bareL [c] = [c] by simp [bareL, hcc], HAL.out, HO.out, HCU.out]); have hOI : (O.size : Int) ≤ 1000000 := by omega
     have HCZ := Zh hcz; clear n1 n2 n3 n4 n5 n6 hcc
     go_wp2
     exact ⟨⟨k + 1, O ++ t.extract k (k + 1), by omega, by go_num, rfl, HE.out, by rw [HAZ.out]; have := HCZ.out; omega⟩, by simp [intOf]; omega⟩
   ·
    have hks : k = t.size := by omega
    subst hks; have HO2 := Zh (show O.data.toList = bareL t.data.toList by rw [HO.out, List.take_of_length_le (by simp)]); have HIO := Zh (fun w => HI.out O (by omega) w)
    cases hb : telB O.data.toList with
    | true =>
     rw [hb] at HIO; have H0 := Zh (show r = (O, 0) by
      rw [HR2.out, ← HO2.out, if_pos hb])
     clear hb
     go_wp2_with (go_at_call 133; (with_reducible refine (HIO.out _).mono ?_); rintro e w3 ⟨rfl, hw⟩; replace hw := hw.symm; subst hw)
     go_ret2
     exact ⟨by rw [H0.out]; rfl, HB1.out⟩
    | false =>
     rw [hb] at HIO; have H0 := Zh (show r = (⟨#[]⟩, 1) by
      rw [HR2.out, ← HO2.out, if_neg (by rw [hb]; decide)])
     clear hb
     go_wp2_with (go_at_call 133; (with_reducible refine (HIO.out _).mono ?_); rintro e w3 ⟨rfl, hw⟩; replace hw := hw.symm; subst hw)
     go_ret2
     exact ⟨by rw [H0.out]; rfl, HB1.out⟩
 ·
  have hk' : (k != 0) = true := by simpa using hk
  have H0 := Zh (show r = (⟨#[]⟩, k) by rw [HR.out]; unfold telOf; rw [if_neg hk]); clear hk
  go_enter Tryz.func120, Tryz.ntmps120
  go_wp2_with (go_at_call 122; (with_reducible refine (HC.out).mono ?_); rintro e w1 ⟨rfl, h1⟩; have HB1 := Zh h1; clear h1)
  go_ret2
  exact ⟨by rw [H0.out]; rfl, HB1.out⟩
end Go.Proofs.YtphijnkiiokieaaGreatDoor
namespace Go.Proofs.YtphijnkiiokieaaGreatDoor
open Go.RowKit
def upB (c : UInt8) : Bool := decide (65 ≤ (c.toNat : Int)) && decide ((c.toNat : Int) ≤ 90)
theorem up_any (c : UInt8) (w : World) : Calls Tryz.prog 69 #[.int .u8 (c.toNat : Int)] w fun e w' => e = .returned (.bool (upB c)) ∧ w' = w := by
 obtain ⟨r, hr⟩ : ∃ r, upB c = r := ⟨_, rfl⟩; rw [hr]; have HR := Zh (show r = (decide (65 ≤ (c.toNat : Int)) && decide ((c.toNat : Int) ≤ 90)) by rw [← hr]; rfl); clear hr
 by_cases u1 : 65 ≤ (c.toNat : Int)
 ·
  by_cases u2 : (c.toNat : Int) ≤ 90
  ·
   have e := Zh (show r = true by rw [HR.out]; simp [u1, u2])
   go_enter Tryz.func69, Tryz.ntmps69
   go_wp2
   go_ret
   exact ⟨by rw [e.out]; rfl, rfl⟩
  ·
   have u2' : decide ((c.toNat : Int) ≤ 90) = false := by simpa using u2
   have e := Zh (show r = false by rw [HR.out, u2']; simp)
   go_enter Tryz.func69, Tryz.ntmps69
   go_wp2
   go_ret
   exact ⟨by rw [e.out]; rfl, rfl⟩
 ·
  have u1' : decide (65 ≤ (c.toNat : Int)) = false := by simpa using u1
  have e := Zh (show r = false by rw [HR.out, u1']; simp)
  go_enter Tryz.func69, Tryz.ntmps69
  go_wp2
  go_ret
  exact ⟨by rw [e.out]; rfl, rfl⟩
theorem rfold_any (s : ByteArray) (hs : s.size ≤ 1000000) (w : World) : Calls Tryz.prog 134 #[.string s] w fun e w' => e = .returned (.string (lowS s)) ∧ Below w.heap.size w w' := by
 obtain ⟨cap, hcap⟩ : ∃ cap, grownCap w s.size 0 5 = cap := ⟨_, rfl⟩; have hge : s.size ≤ cap := by rw [← hcap]; exact grownCap_ge _ _ _ _
 have kc := run_bytes_of_string (P := Tryz.prog) w 9 27 5 s Tryz.underlying9 Tryz.underlying27 Tryz.underlying5; rw [hcap] at kc; have HR := Zh (row_str w.drew s cap hge w.heap.size rfl); have HB0 : Hid (Below w.heap.size w (w.drew.alloc (.cells (bytesRow s cap) 5 ((bytesRow s cap).size, (bytesRow s cap).size + 1)))) := Zh (((Below.refl _ _).drew).alloc (Nat.le_refl _) _); obtain ⟨W1, hW1⟩ : ∃ W1, w.drew.alloc (.cells (bytesRow s cap) 5 ((bytesRow s cap).size, (bytesRow s cap).size + 1)) = W1 := ⟨_, rfl⟩; rw [hW1] at kc HR HB0; clear hW1 hcap; have hcapI : (s.size : Int) ≤ (cap : Int) := by omega
 go_enter Tryz.func134, Tryz.ntmps134
 go_wp2
 go_loopw [4] (fun i wr => ∃ k : Nat, k ≤ s.size ∧ i = .int .i64 (k : Int) ∧ Row wr w.heap.size cap (part s.data.toList k) ∧ Below w.heap.size w wr) (fun i _ => s.size - (intOf i).toNat)
 case atStart => exact ⟨0, Nat.zero_le _, rfl, by unfold part lowL; simpa using HR.out, HB0.out⟩
 case round =>
  obtain ⟨k, hk, rfl, hr, hb⟩ := hrel; have HRR := Zh hr; have HBB := Zh hb; clear hr hb
  by_cases hlt : k < s.size
  ·
   have hkl : k < s.data.toList.length := by simpa using hlt
   obtain ⟨cc, cf⟩ := HRR.out.cell (part_at _ _ hkl); obtain ⟨c, hc⟩ : ∃ c, s.data.toList[k] = c := ⟨_, rfl⟩; rw [hc] at cc; have hc8 : (c.toNat : Int) ≤ 255 := by have := c.toNat_lt; omega
   have HC := Zh hc; have HU := Zh (up_any c); clear hc
   by_cases u : upB c = true
   ·
    have hu : 65 ≤ (c.toNat : Int) ∧ (c.toNat : Int) ≤ 90 := by unfold upB at u; simpa using u
    have HS := Zh (show Row (wr.setCell ⟨w.heap.size, k, none⟩ (.int .u8 ((c.toNat : Int) + 32))) w.heap.size cap (part s.data.toList (k + 1)) by
     have h := HRR.out.set k (low s.data.toList[k]); rw [part_set _ _ hkl, HC.out] at h; have e : ((low c).toNat : Int) = (c.toNat : Int) + 32 := by
      unfold low; rw [if_pos hu, UInt8.toNat_ofNat']; omega
     rwa [e] at h)
    obtain ⟨u1, u2⟩ := hu
    go_wp2_with (go_at_call 69; refine (HU.out _).mono ?_)
    rintro e w1 ⟨rfl, rfl⟩; rw [u]
    go_wp2
    exact ⟨⟨k + 1, by omega, by go_num, HS.out, HBB.out.setCell (p := ⟨w.heap.size, k, none⟩) (Nat.le_refl _) _⟩, by simp [intOf]; omega⟩
   ·
    have u' : upB c = false := by simpa using u
    have HS := Zh (part_same _ _ hkl (by rw [HC.out]; unfold low; rw [if_neg (by unfold upB at u; simpa using u)]))
    go_wp2_with (go_at_call 69; refine (HU.out _).mono ?_)
    rintro e w1 ⟨rfl, rfl⟩; rw [u']
    go_wp2
    exact ⟨⟨k + 1, by omega, by go_num, by rw [HS.out]; exact HRR.out, HBB.out⟩, by simp [intOf]; omega⟩
  ·
   have hks : k = s.size := by omega
   subst hks; have hcv := row_conv HRR.out cap; have e : part s.data.toList s.size = lowL s.data.toList := by unfold part lowL; rw [List.take_of_length_le (by simp), List.drop_of_length_le (by simp)]; simp
   rw [part_len, ← bs_size, e] at hcv
   go_wp2
   go_ret
   exact ⟨rfl, HBB.out⟩
end Go.Proofs.YtphijnkiiokieaaGreatDoor
