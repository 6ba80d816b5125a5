/- card: one name, one day (maths). -/
import Derived.Test.YtdfalfmeejgcoaaGreatDoorZp
import Derived.Test.YtdfalfmeejgcoaaGreatDoorZo
/- The reference's Clean: its walk. -/
namespace Go.Proofs.YtdfalfmeejgcoaaGreatDoor
open Go.RowKit
open Go.Lib hiding intOf
set_option linter.unusedVariables false
set_option maxRecDepth 20000
theorem wpList_own_append {P : Program} {e t tx : TypeId} (w : World) {ops : Array Oper} {rest : List Oper} {o : Oper} {a : Act} {Q : Exit → Act → World → Prop} (hgd : o.guard = none) (s x : Operand)
    (ho : o.op = .call { callee := .builtin .append, args := #[s, x], argTypes := #[t, tx] }) {i : TypeInfo} {z : Value} (ht : P.underlying t = some (.slice e)) (hi : P.info? e = some i) (hz : i.zero = some z) (hsz : i.size = 1) (hby : i.bytes = 1) (hzs : z.cells.size = 1)
    {B : Nat} {v : Value} {l : List UInt8} (hv : a.eval s = v) (h : Own e B w v l) (hB : B ≤ w.heap.size) (xv : Value) (hx : a.eval x = xv) (more : List UInt8) (hs : Src P 1 tx xv more.length (more.map bv) w) (h63 : l.length + more.length ≤ 140737488355328)
    (hK : ∀ v' w', Own e B w' v' (l ++ more) → Below B w w' → wpList P ops Q rest (a.put o.dst v') w') : wpList P ops Q (o :: rest) a w := by
  refine wpList_plain hgd fun K hK' => ?_
  obtain ⟨v', w', hrun, r1, r2⟩ := own_append (P := P) (ty := o.type) ht hi hz hsz hby hzs h hB xv more hs h63
  unfold Oper.wp
  simp [execOp, ho, resolve, invoke, builtin, hv, hx, hrun, Result.andThen]
  exact hK' _ _ (hK v' w' r1 r2)
theorem one_srcb (c : UInt8) {W : World} {g : Nat} (h : Blk W g 5 #[.int .u8 (c.toNat : Int)]) :
    Src Tryz.prog 1 59 (.slice (some ⟨g, 0, none⟩) 1 1) ([c] : List UInt8).length (([c] : List UInt8).map bv) W := by
  refine Src.ofSlice W Tryz.underlying59 _ 1 1 _ rfl (fun j u hu => ?_) (fun u hu => by
    obtain ⟨x, _, rfl⟩ := List.mem_map.1 hu
    rfl)
  rw [add_plain, Nat.zero_add, h.cell j]
  simpa [bv] using hu
set_option maxHeartbeats 8000000 in
theorem rclean_any (s : ByteArray) (hs : s.size ≤ 1000000) (w : World) : Calls Tryz.prog 35 #[.string s] w fun e w' => e = .returned (.tuple #[.string (cleanS s).1, .int .i64 (cleanS s).2]) ∧ Below w.heap.size w w' := by
  obtain ⟨r, hr⟩ : ∃ r, cleanS s = r := ⟨_, rfl⟩
  rw [hr]
  have HR := Lib.hid (show r = cleanOf (validD s.data.toList) (s.data.toList.any ctl) (squeezeS s) by rw [← hr]; rfl)
  clear hr
  have HS := Lib.hid (sign_any s hs)
  have HL := Lib.hid (show s.data.toList.length = s.size by simp)
  obtain ⟨i0, hi0, hz0, hz1, hz2⟩ := info_parts info5
  go_enter Tryz.func35, Tryz.ntmps35
  go_wp2
  go_loop [4] (fun i => ∃ k : Nat, k ≤ s.size ∧ i = .int .i64 (k : Int) ∧ validD s.data.toList = validD (s.data.toList.drop k) ∧ s.data.toList.any ctl = (s.data.toList.drop k).any ctl) (fun i => s.size - (intOf i).toNat)
  case atStart => exact ⟨0, by omega, rfl, by simp, by simp⟩
  case round =>
    obtain ⟨k, hk, rfl, h1, h2⟩ := hrel
    have H1 := Lib.hid h1
    have H2 := Lib.hid h2
    clear h1 h2
    by_cases hlt : k < s.size
    · have hne : s.data.toList.drop k ≠ [] := fun e => by have := congrArg List.length e; simp at this; omega
      have HV := Lib.hid (signN_valid _ hne)
      have HW := Lib.hid (signN_width _ hne)
      have HCT := Lib.hid (sign_ctl _ hne)
      have HCA := Lib.hid (ctl_any _ hne)
      have HG := Lib.hid (drop_getD0 s k hlt)
      have HD := Lib.hid (fun x => (List.drop_drop : (s.data.toList.drop k).drop x = s.data.toList.drop (k + x)))
      have HLe := Lib.hid (show (s.data.toList.drop k).length = s.size - k by simp)
      have hS := HS.out k hlt
      obtain ⟨x, hx⟩ : ∃ x, signN (s.data.toList.drop k) = x := ⟨_, rfl⟩
      rw [hx] at HV HW hS HCT
      rw [HG.out] at HCT HCA
      have HSx := Lib.hid hS
      obtain ⟨c, hc⟩ : ∃ c, s[k] = c := ⟨_, rfl⟩
      rw [hc] at HCT HCA
      clear hS hx hne HG
      cases x with
      | zero =>
        have H0 := Lib.hid (show r = (⟨#[]⟩, 1) by rw [HR.out, H1.out, HV.out]; rfl)
        go_wp2_with (go_at_call 59; refine (HSx.out _).mono ?_; rintro e w1 ⟨rfl, hw1⟩; replace hw1 := hw1.symm; subst hw1)
        go_ret2
        exact ⟨by rw [H0.out]; rfl, Below.refl _ _⟩
      | succ x =>
        have hw := (HW.out (by omega)).2.2
        rw [HLe.out] at hw
        have x0 : (((x : Int) + 1) == 0) = false := by rw [beq_eq_false_iff_ne]; omega
        by_cases u1 : (c.toNat : Int) < 32
        · have H0 := Lib.hid (show r = (⟨#[]⟩, 1) by rw [HR.out, H2.out, HCA.out (by unfold ctl; simp only [u1, decide_true, Bool.true_or])]; unfold cleanOf; rw [if_pos (by simp)])
          go_wp2_with (go_at_call 59; refine (HSx.out _).mono ?_; rintro e w1 ⟨rfl, hw1⟩; replace hw1 := hw1.symm; subst hw1)
          go_ret2
          exact ⟨by rw [H0.out]; rfl, Below.refl _ _⟩
        · by_cases u2 : (c.toNat : Int) = 127
          · have u2' : ((c.toNat : Int) == 127) = true := by rw [u2]; rfl
            have H0 := Lib.hid (show r = (⟨#[]⟩, 1) by rw [HR.out, H2.out, HCA.out (by unfold ctl; rw [u2']; simp)]; unfold cleanOf; rw [if_pos (by simp)])
            clear u2
            go_wp2_with (go_at_call 59; refine (HSx.out _).mono ?_; rintro e w1 ⟨rfl, hw1⟩; replace hw1 := hw1.symm; subst hw1)
            go_ret2
            exact ⟨by rw [H0.out]; rfl, Below.refl _ _⟩
          · have u2' : ((c.toNat : Int) == 127) = false := by simpa using u2
            have hcf := HCT.out (by omega) (by unfold ctl; rw [u2']; simpa using u1)
            have HCF := Lib.hid hcf
            have u1' : decide ((c.toNat : Int) < 32) = false := by simpa using u1
            clear hcf
            go_wp2_with (go_at_call 59; refine (HSx.out _).mono ?_; rintro e w1 ⟨rfl, hw1⟩; replace hw1 := hw1.symm; subst hw1)
            exact ⟨⟨k + (x + 1), by omega, by go_num, by rw [H1.out, HV.out, HD.out]; simp, by rw [H2.out, HCF.out, HD.out]⟩, by simp [intOf]; omega⟩
    · have hks : k = s.size := by omega
      subst hks
      have HR2 := Lib.hid (show r = cleanOf true false (squeezeS s) by
        have e : s.data.toList.drop s.size = [] := List.drop_of_length_le (by simp)
        have h1 := H1.out
        have h2 := H2.out
        rw [e] at h1 h2
        rw [HR.out, h1, h2]; rfl)
      clear H1 H2 HR
      go_wp2
      go_loopw [6, 7] (fun v i wr => ∃ k : Nat, k ≤ s.size ∧ i = .int .i64 (k : Int) ∧ Own 5 w.heap.size wr v (outS (sqAt s.data.toList k)) ∧ Below w.heap.size w wr) (fun _ i _ => s.size - (intOf i).toNat)
      case atStart => exact ⟨0, Nat.zero_le _, rfl, Own.nil 5 _ _ _, Below.refl _ _⟩
      case round =>
        obtain ⟨k, hk, rfl, ho, hb⟩ := hrel
        have HB := Lib.hid hb
        have HX := Lib.hid (sq_last s.data.toList k (by simpa using hk))
        have HLN := Lib.hid (out_len s.data.toList k (by simpa using hk))
        have HSU := Lib.hid (fun h => sqAt_succ s.data.toList k h)
        obtain ⟨X, hX⟩ : ∃ X, sqAt s.data.toList k = X := ⟨_, rfl⟩
        rw [hX] at HX HLN HSU ho
        obtain ⟨A, cap, b, hv, hle, hmax, ha, hbb, hcell⟩ := ho.reads
        subst hv
        have HO := Lib.hid ho
        have HXX := Lib.hid hX
        clear hb hX ho
        by_cases hlt : k < s.size
        · have hkl : k < s.data.toList.length := by simpa using hlt
          obtain ⟨c, hc⟩ : ∃ c, s[k] = c := ⟨_, rfl⟩
          have HC := Lib.hid (show s.data.toList[k] = c from by rw [← hc]; rfl)
          have HSX := Lib.hid (show sqAt s.data.toList (k + 1) = sqStep X c by rw [HSU.out hkl, HC.out])
          clear HSU
          by_cases u : (c.toNat : Int) = 32
          · have u' : ((c.toNat : Int) == 32) = true := by rw [u]; rfl
            have HN := Lib.hid (out_blank X c u HX.out)
            have e32 := Lib.hid (show ([c] : List UInt8) = [32] by
              have : c = 32 := UInt8.toNat_inj.1 (by show c.toNat = 32; omega)
              rw [this])
            obtain ⟨O, hO⟩ : ∃ O, outS X = O := ⟨_, rfl⟩
            simp only [hO] at HO HLN hle hcell ha hbb HN ⊢
            have HX2 := Lib.hid hO
            clear hO u
            rcases List.eq_nil_or_concat O with rfl | ⟨O', d, rfl⟩
            · have HA := Lib.hid ha
              have HCE := Lib.hid hcell
              have HE := Lib.hid (show outS (sqAt s.data.toList (k + 1)) = [] by rw [HSX.out]; exact HN.out.1 (.inl rfl))
              clear ha hcell hbb
              go_wp2
              exact ⟨⟨k + 1, by omega, by go_num, by rw [HE.out]; exact HO.out, HB.out⟩, by simp [intOf]; omega⟩
            · rw [List.concat_eq_append] at HO HLN hle hcell ha hbb HN HX2 ⊢
              have hcd := hcell O'.length d (by simp)
              obtain ⟨hA, hblt⟩ := ha (by simp)
              subst hA
              have HLA := Lib.hid (show (O' ++ [d]).getLast? = some d by simp)
              have HLL := Lib.hid (show (O' ++ [d]).length = O'.length + 1 by simp)
              rw [HLL.out] at HO HLN hle ⊢
              rw [Nat.zero_add] at hcd
              obtain ⟨m, hm⟩ : ∃ m, O'.length = m := ⟨_, rfl⟩
              rw [hm] at HO HLN hle hcd HLL ⊢
              have hm1 : m + 1 ≤ 1000000 := by have := HLN.out; omega
              have HCE := Lib.hid hcell
              clear hcell hbb ha hm
              obtain ⟨O, hO⟩ : ∃ O, O' ++ [d] = O := ⟨_, rfl⟩
              rw [hO] at HO HN HX2 HLA HLL HCE
              clear hO
              have x0 : (((m : Int) + 1) == 0) = false := by rw [beq_eq_false_iff_ne]; omega
              by_cases ud : (d.toNat : Int) = 32
              · have ud' : ((d.toNat : Int) == 32) = true := by rw [ud]; rfl
                have HE := Lib.hid (show outS (sqAt s.data.toList (k + 1)) = O by
                  rw [HSX.out]
                  exact HN.out.1 (.inr (by rw [HLA.out]; congr 1; exact UInt8.toNat_inj.1 (by show d.toNat = 32; omega))))
                clear ud
                go_wp2
                exact ⟨⟨k + 1, by omega, by go_num, by rw [HE.out]; exact HO.out, HB.out⟩, by simp [intOf]; omega⟩
              · have ud' : ((d.toNat : Int) == 32) = false := by simpa using ud
                have HE := Lib.hid (show outS (sqAt s.data.toList (k + 1)) = O ++ [c] by
                  rw [HSX.out, e32.out]
                  exact HN.out.2 (fun e => by have := HLL.out; rw [e] at this; simp at this) (by rw [HLA.out]; intro e; obtain rfl := Option.some.inj e; exact ud rfl))
                clear ud
                go_wp2_with (
                  at_builtin
                  refine wpList_own_append (e := 5) (t := 59) (tx := 59) (z := .int .u8 0) (i := i0) (B := w.heap.size) (v := .slice (some ⟨b, 0, none⟩) (m + 1) cap) (l := O) _ rfl (.tmp 56) (.tmp 60) rfl Tryz.underlying59 hi0 hz0 hz1 hz2 rfl rfl (HO.out.below ((Below.refl _ _).alloc (Nat.le_refl _) _)) ?hB1 (.slice (some ⟨wr.heap.size, 0, none⟩) 1 1) rfl [c] (one_srcb c (Blk.new _ _ _)) ?h63_1 ?hK1
                  case hB1 => (have := HB.out.size; simp; omega)
                  case h63_1 => (have := HLN.out; have := HLL.out; simp; omega)
                  intro v2 w2 h1 h2
                  have HO2 := Lib.hid h1
                  have H2 := Lib.hid ((HB.out.alloc HB.out.size _).trans h2)
                  clear h1 h2)
                exact ⟨⟨k + 1, by omega, by go_num, by rw [HE.out]; exact HO2.out, H2.out⟩, by simp [intOf]; omega⟩
          · have u' : ((c.toNat : Int) == 32) = false := by simpa using u
            have HN := Lib.hid (show outS (sqAt s.data.toList (k + 1)) = outS X ++ [c] by rw [HSX.out, out_other X c u])
            obtain ⟨O, hO⟩ : ∃ O, outS X = O := ⟨_, rfl⟩
            simp only [hO] at HO HLN hle hcell ha hbb HN ⊢
            obtain ⟨L, hL⟩ : ∃ L, O.length = L := ⟨_, rfl⟩
            simp only [hL] at HO HLN hle ha hbb ⊢
            have HLL := Lib.hid hL
            have HA := Lib.hid ha
            have HCE := Lib.hid hcell
            clear hL hO u ha hcell hbb
            go_wp2_with (
              at_builtin
              refine wpList_own_append (e := 5) (t := 59) (tx := 59) (z := .int .u8 0) (i := i0) (B := w.heap.size) (v := .slice A L cap) (l := O) _ rfl (.tmp 56) (.tmp 60) rfl Tryz.underlying59 hi0 hz0 hz1 hz2 rfl rfl (HO.out.below ((Below.refl _ _).alloc (Nat.le_refl _) _)) ?hB2 (.slice (some ⟨wr.heap.size, 0, none⟩) 1 1) rfl [c] (one_srcb c (Blk.new _ _ _)) ?h63_2 ?hK2
              case hB2 => (have := HB.out.size; simp; omega)
              case h63_2 => (have := HLN.out; have := HLL.out; simp; omega)
              intro v2 w2 h1 h2
              have HO2 := Lib.hid h1
              have H2 := Lib.hid ((HB.out.alloc HB.out.size _).trans h2)
              clear h1 h2)
            exact ⟨⟨k + 1, by omega, by go_num, by rw [HN.out]; exact HO2.out, H2.out⟩, by simp [intOf]; omega⟩
        · have hks : k = s.size := by omega
          subst hks
          have HSQ := Lib.hid (show squeezeS s = ⟨X.2.toArray⟩ by unfold squeezeS; rw [HXX.out])
          have HF := Lib.hid (out_fin X HX.out)
          obtain ⟨O, hO⟩ : ∃ O, outS X = O := ⟨_, rfl⟩
          simp only [hO] at HO HLN hle hcell ha hbb HF ⊢
          clear hO HSU HX
          have hfin : ∀ (l : List UInt8), X.2 = l → l ≠ [] → r = if 64 < (l.length : Int) then (⟨#[]⟩, 2) else (⟨l.toArray⟩, 0) := by
            intro l e hne
            rw [HR2.out, HSQ.out, e]
            unfold cleanOf
            rw [if_neg (by decide), if_neg (fun h => hne (by have := congrArg (fun b : ByteArray => b.data.toList) h; simpa using this))]
            rfl
          have HFin := Lib.hid hfin
          clear hfin
          rcases List.eq_nil_or_concat O with rfl | ⟨O', d, rfl⟩
          · have H0 := Lib.hid (show r = (⟨#[]⟩, 14) by
              rw [HR2.out, HSQ.out, HF.out.2 (by simp)]; rfl)
            have HA := Lib.hid ha
            have HCE := Lib.hid hcell
            clear ha hcell hbb
            go_wp2
            go_ret2
            exact ⟨by rw [H0.out]; rfl, HB.out⟩
          · rw [List.concat_eq_append] at HO HLN hle hcell ha hbb HF ⊢
            have hcd := hcell O'.length d (by simp)
            obtain ⟨hA, hblt⟩ := ha (by simp)
            subst hA
            have HLA := Lib.hid (show (O' ++ [d]).getLast? = some d by simp)
            have HDL := Lib.hid (show (O' ++ [d]).dropLast = O' by simp)
            have HLL := Lib.hid (show (O' ++ [d]).length = O'.length + 1 by simp)
            have hcv0 : (convert 59 9 (.slice (some ⟨b, 0, none⟩) O'.length cap)).run Tryz.prog wr = .ok (.string ⟨O'.toArray⟩) wr :=
              run_convert_bytes_back _ 59 9 5 _ cap O' Tryz.underlying59 Tryz.underlying5 Tryz.underlying9 (fun j hj => by rw [add_plain]; exact hcell j _ (by rw [List.getElem?_append_left hj]; exact List.getElem?_eq_getElem hj))
            have hcv1 : (convert 59 9 (.slice (some ⟨b, 0, none⟩) (O' ++ [d]).length cap)).run Tryz.prog wr = .ok (.string ⟨(O' ++ [d]).toArray⟩) wr :=
              run_convert_bytes_back _ 59 9 5 _ cap _ Tryz.underlying59 Tryz.underlying5 Tryz.underlying9 (fun j hj => by rw [add_plain]; exact hcell j _ (List.getElem?_eq_getElem hj))
            have HP := Lib.hid (fun h => HFin.out O' h)
            rw [HLL.out] at HO HLN hle hcv1 ⊢
            rw [Nat.zero_add] at hcd
            obtain ⟨m, hm⟩ : ∃ m, O'.length = m := ⟨_, rfl⟩
            rw [hm] at HO HLN hle hcd HLL HP hcv0 hcv1 ⊢
            have hm1 : m + 1 ≤ 1000000 := by have := HLN.out; omega
            have HCE := Lib.hid hcell
            have HM := Lib.hid hm
            clear hcell hbb ha hm
            obtain ⟨O, hO⟩ : ∃ O, O' ++ [d] = O := ⟨_, rfl⟩
            rw [hO] at HO HF HLA HLL HCE hcv1 HDL
            clear hO
            by_cases ud : (d.toNat : Int) = 32
            · have ud' : ((d.toNat : Int) == 32) = true := by rw [ud]; rfl
              obtain ⟨h1, h2⟩ := HF.out.1 (by rw [HLA.out]; congr 1; exact UInt8.toNat_inj.1 (by show d.toNat = 32; omega))
              have h3 := HP.out (h1.trans HDL.out) (by rw [← HDL.out, ← h1]; exact h2)
              have hm0 : 0 < m := by
                rcases Nat.eq_zero_or_pos m with h | h
                · have : O' = [] := List.eq_nil_of_length_eq_zero (by rw [HM.out, h])
                  rw [h1, HDL.out] at h2
                  exact absurd this h2
                · exact h
              have x0 : ((m : Int) == 0) = false := by rw [beq_eq_false_iff_ne]; omega
              have H3 := Lib.hid h3
              clear ud h1 h2 h3 hcv1
              by_cases h64 : 64 < (m : Int)
              · have H0 := Lib.hid (show r = (⟨#[]⟩, 2) by rw [H3.out, if_pos h64])
                go_wp2
                go_ret2
                exact ⟨by rw [H0.out]; rfl, HB.out⟩
              · have H0 := Lib.hid (show r = (⟨O'.toArray⟩, 0) by rw [H3.out, if_neg h64])
                go_wp2
                go_ret2
                exact ⟨by rw [H0.out]; rfl, HB.out⟩
            · have ud' : ((d.toNat : Int) == 32) = false := by simpa using ud
              have h1 := HF.out.2 (by rw [HLA.out]; intro e; obtain rfl := Option.some.inj e; exact ud rfl)
              have h3 := HFin.out O h1 (fun e => by have := HLL.out; rw [e] at this; simp at this)
              rw [HLL.out] at h3
              have x0 : (((m : Int) + 1) == 0) = false := by rw [beq_eq_false_iff_ne]; omega
              have H3 := Lib.hid h3
              clear ud h1 h3 hcv0
              by_cases h64 : 64 < (m : Int) + 1
              · have H0 := Lib.hid (show r = (⟨#[]⟩, 2) by rw [H3.out, if_pos (by omega)])
                go_wp2
                go_ret2
                exact ⟨by rw [H0.out]; rfl, HB.out⟩
              · have H0 := Lib.hid (show r = (⟨O.toArray⟩, 0) by rw [H3.out, if_neg (by omega)])
                go_wp2
                go_ret2
                exact ⟨by rw [H0.out]; rfl, HB.out⟩
end Go.Proofs.YtdfalfmeejgcoaaGreatDoor
namespace Go.Proofs.YtdfalfmeejgcoaaGreatDoor
open Go.RowKit
open Go.Lib hiding intOf
open Go.Sort Go.Proofs
set_option linter.unusedVariables false
set_option linter.unusedSimpArgs false
set_option maxRecDepth 100000
theorem cnt_all (k : Int) (L : List F3) : cnt k L = (L.filter fun f => f.1 == k).length := by unfold cnt cntF; rw [List.take_length]
theorem len_two {α : Type} {x y : α} : ∀ {l : List α}, x ∈ l → y ∈ l → x ≠ y → 2 ≤ l.length
  | [], h, _, _ => by cases h
  | [z], h1, h2, hne => by rw [List.mem_singleton] at h1 h2; exact absurd (h1.trans h2.symm) hne
  | _ :: _ :: _, _, _, _ => by simp
theorem cnt_two {k : Int} {L : List F3} {x y : F3} (h1 : x ∈ L) (h2 : y ∈ L) (hx : x.1 = k) (hy : y.1 = k) (hne : x ≠ y) : 2 ≤ cnt k L := by
  rw [cnt_all]
  exact len_two (List.mem_filter.2 ⟨h1, by simpa using hx⟩) (List.mem_filter.2 ⟨h2, by simpa using hy⟩) hne
theorem label_name {l : Int} (h : labelledB 1 l = true) : l = 0 := by
  unfold labelledB at h
  by_cases h0 : l = 0
  · exact h0
  · exfalso
    simp [h0] at h
/-- A card begins with its name, and has no other one. -/
theorem card_head {a : List F3} (h : IsCard a) : ∃ v rest, a = (1, 0, v) :: rest ∧ Cnn (1, 0, v) ∧ cnt 1 rest = 0 := by
  have h1 := (card_nums h).2.2.1
  rw [cnt_all] at h1
  obtain ⟨f, hf⟩ : ∃ f, f ∈ a.filter fun f => f.1 == 1 := List.exists_mem_of_length_pos (by omega)
  obtain ⟨hf1, hf2⟩ := List.mem_filter.1 hf
  have hf3 : f.1 = 1 := by simpa using hf2
  match a, h, h1, hf1 with
  | g :: rest, h, h1, hf1 =>
    have hg := h.cnn g List.mem_cons_self
    have hgm := may_kinds hg.1
    have hg1 : g.1 = 1 := by
      rcases List.mem_cons.1 hf1 with e | hr
      · rw [← e]; exact hf3
      · have hlt := (List.pairwise_cons.1 h.str).1 f hr
        unfold ltF lessF at hlt
        by_cases he : g.1 = f.1
        · rw [he]; exact hf3
        · rw [if_neg he] at hlt
          have := of_decide_eq_true hlt
          omega
    obtain ⟨g1, g2, g3⟩ := g
    simp only at hg1
    subst hg1
    have hl : g2 = 0 := by
      have hm := hg.1
      simp only at hm
      unfold mayF at hm
      simp only [Bool.and_eq_true] at hm
      exact label_name (by first | exact hm.1.1.2 | exact hm.1.2 | exact hm.2.1.1 | exact hm.1.1.1.2)
    subst hl
    refine ⟨g3, rest, rfl, hg, ?_⟩
    rw [List.filter_cons, if_pos (by rfl), List.length_cons] at h1
    rw [cnt_all]
    omega
theorem card_tail {v : ByteArray} {rest : List F3} (h : IsCard ((1, 0, v) :: rest)) (h0 : cnt 1 rest = 0) : canL rest = ([], 1) := by
  obtain ⟨e1, e2⟩ := cnn_all (L := rest) fun f hf => h.cnn f (List.mem_cons_of_mem _ hf)
  have hs := (List.pairwise_cons.1 h.str).2
  have hn := (card_nums h).1
  rw [List.length_cons] at hn
  rw [canL_ok e1, e2, rise_self hs]
  unfold canO
  rw [if_neg (by omega), if_pos (.inl (by omega))]
theorem clean_out (s : ByteArray) : ((cleanS s).2 = 0 ∧ (cleanS s).1 ≠ ⟨#[]⟩) ∨ ((cleanS s).2 ≠ 0 ∧ (cleanS s).1 = ⟨#[]⟩) := by
  unfold cleanS cleanOf
  split
  · exact .inr ⟨by decide, rfl⟩
  · split
    · exact .inr ⟨by decide, rfl⟩
    · split
      · exact .inr ⟨by decide, rfl⟩
      · rename_i h _; exact .inl ⟨rfl, h⟩
theorem cn1_name (s : ByteArray) : cn1 (1, 0, s) = if (cleanS s).2 = 0 then ((1, 0, (cleanS s).1), 0) else ((0, 0, ⟨#[]⟩), (cleanS s).2) := by
  have hv : valueS 1 s = cleanS s := by unfold valueS; rw [if_neg (by decide), if_neg (by decide), if_neg (by omega)]
  have h1 : ¬ ((kindW 1).toList.isEmpty = true ∨ labelledB 1 0 = false) := by decide +kernel
  unfold cn1
  simp only
  rw [if_neg h1, hv]
theorem cnn_name {v : ByteArray} (h : Cnn (1, 0, v)) : (cleanS v).2 = 0 ∧ (cleanS v).1 = v ∧ v ≠ ⟨#[]⟩ := by
  have := h.2.1
  rw [cn1_name] at this
  split at this
  · rename_i h0
    have e : (cleanS v).1 = v := by have := congrArg (fun p : F3 × Int => p.1.2.2) this; simpa using this
    rcases clean_out v with ⟨_, h2⟩ | ⟨h2, _⟩
    · exact ⟨h0, e, by rw [e] at h2; exact h2⟩
    · exact absurd h0 h2
  · have := congrArg (fun p : F3 × Int => p.1.1) this
    exact absurd this (by simp)
/-- One more name. -/
theorem card_more {v : ByteArray} {rest : List F3} (h : IsCard ((1, 0, v) :: rest)) (hl : ((1, 0, v) :: rest).length < 11) (s : ByteArray) :
    ∃ rv re, canL ((1, 0, v) :: rest ++ [(1, 0, s)]) = (rv, re) ∧ (re != 0) = !(v.toList == (cleanS s).1.toList) := by
  obtain ⟨a, ha⟩ : ∃ a, (1, 0, v) :: rest = a := ⟨_, rfl⟩
  have hv := cnn_name (h.cnn _ List.mem_cons_self)
  have hmem : ((1, 0, v) : F3) ∈ a := ha ▸ List.mem_cons_self
  rw [ha] at h hl ⊢
  rcases clean_out s with ⟨h1, h2⟩ | ⟨h1, h2⟩
  · have hc : cn1 (1, 0, s) = ((1, 0, (cleanS s).1), 0) := by rw [cn1_name, if_pos h1]
    obtain ⟨e1, e2⟩ := cnn_all h.cnn
    have herr : errL (a ++ [(1, 0, s)]) = 0 := (errL_zero _).2 fun f hf => by
      rcases List.mem_append.1 hf with hf | hf
      · rw [(h.cnn f hf).2.1]
      · rw [List.mem_singleton.1 hf, hc]
    have hcn : cnA (a ++ [(1, 0, s)]) = a ++ [(1, 0, (cleanS s).1)] := by
      have : cnA (a ++ [(1, 0, s)]) = cnA a ++ [(cn1 (1, 0, s)).1] := by unfold cnA; rw [List.map_append]; rfl
      rw [this, e2, hc]
    rw [canL_ok herr, hcn]
    by_cases hvv : v = (cleanS s).1
    · rw [← hvv]
      have : rise (a ++ [(1, 0, v)]) = a := rise_of h.str fun x => by
        rw [List.mem_append, List.mem_singleton]
        exact ⟨.inl, fun hx => hx.elim id fun e => e ▸ hmem⟩
      rw [this, h.can]
      exact ⟨_, _, rfl, by simp⟩
    · have hlen : (rise (a ++ [(1, 0, (cleanS s).1)])).length ≤ 11 := by
        have := rise_length_le (a ++ [(1, 0, (cleanS s).1)])
        rw [List.length_append] at this
        simp only [List.length_cons, List.length_nil] at this
        omega
      have h2c : 2 ≤ cnt 1 (rise (a ++ [(1, 0, (cleanS s).1)])) := cnt_two (x := (1, 0, v)) (y := (1, 0, (cleanS s).1)) ((rise_mem _ _).2 (List.mem_append_left _ hmem)) ((rise_mem _ _).2 (List.mem_append_right _ (List.mem_singleton_self _))) rfl rfl (fun e => hvv (congrArg (fun f : F3 => f.2.2) e))
      refine ⟨[], 1, by unfold canO; rw [if_neg (by omega), if_pos (.inl (by omega))], ?_⟩
      rw [Day.ne_str hvv]
      rfl
  · have herr : errL (a ++ [(1, 0, s)]) ≠ 0 := fun h0 => by
      have := (errL_zero _).1 h0 (1, 0, s) (List.mem_append_right _ (List.mem_singleton_self _))
      rw [cn1_name, if_neg h1] at this
      exact h1 this
    refine ⟨_, _, canL_err rfl herr, ?_⟩
    rw [h2, Day.ne_str hv.2.2]
    simpa using herr
abbrev d1S : ByteArray := ⟨#[50, 48, 48, 49, 45, 48, 49, 45, 48, 49]⟩
abbrev d2S : ByteArray := ⟨#[50, 48, 48, 49, 45, 48, 49, 45, 48, 50]⟩
theorem day1 : cn1 (5, 0, d1S) = ((5, 0, d1S), 0) := by decide +kernel
theorem day2 : cn1 (5, 0, d2S) = ((5, 0, d2S), 0) := by decide +kernel
theorem card_days {a : List F3} (h : IsCard a) (hl : a.length < 11) : canL (a ++ [(5, 0, d1S), (5, 0, d2S)]) = ([], 1) := by
  obtain ⟨e1, e2⟩ := cnn_all h.cnn
  have herr : errL (a ++ [(5, 0, d1S), (5, 0, d2S)]) = 0 := (errL_zero _).2 fun f hf => by
    rcases List.mem_append.1 hf with hf | hf
    · rw [(h.cnn f hf).2.1]
    · simp only [List.mem_cons, List.not_mem_nil, or_false] at hf
      rcases hf with rfl | rfl
      · rw [day1]
      · rw [day2]
  have hcn : cnA (a ++ [(5, 0, d1S), (5, 0, d2S)]) = a ++ [(5, 0, d1S), (5, 0, d2S)] := by
    have : cnA (a ++ [(5, 0, d1S), (5, 0, d2S)]) = cnA a ++ [(cn1 (5, 0, d1S)).1, (cn1 (5, 0, d2S)).1] := by unfold cnA; rw [List.map_append]; rfl
    rw [this, e2, day1, day2]
  rw [canL_ok herr, hcn]
  have hlen : (rise (a ++ [(5, 0, d1S), (5, 0, d2S)])).length ≤ 12 := by
    have := rise_length_le (a ++ [(5, 0, d1S), (5, 0, d2S)])
    rw [List.length_append] at this
    simp only [List.length_cons, List.length_nil] at this
    omega
  have h2c : 2 ≤ cnt 5 (rise (a ++ [(5, 0, d1S), (5, 0, d2S)])) := cnt_two (x := (5, 0, d1S)) (y := (5, 0, d2S)) ((rise_mem _ _).2 (List.mem_append_right _ (by simp))) ((rise_mem _ _).2 (List.mem_append_right _ (by simp))) rfl rfl (by decide)
  unfold canO
  rw [if_neg (by omega), if_pos (.inr (.inr (by omega)))]
end Go.Proofs.YtdfalfmeejgcoaaGreatDoor
