/- The reference's lock: Holders, walked. -/
import Derived.Test.YtkhlimlcnlalgaaPc
namespace Go.Proofs.Ytkhlimlcnlalgaa
open Go.RowKit Go.Maps
open Go.Lib
open Go.ChangeShapes Go.ChangeAt
set_option linter.unusedVariables false
set_option linter.unusedSimpArgs false
set_option maxRecDepth 100000
theorem ivs_at {l : List Int} {j : Nat} {x : Int} (h : l[j]? = some x) : (ivs l)[j]? = some (.int .i64 x) := by
  unfold ivs
  rw [List.getElem?_map, h]; rfl
theorem swap_row {w W : World} {B n1 k1 M k : Nat} {K : List Int} {x r : Int} (h1 : W.ownsRow B 3 1 (.slice (some ⟨n1, 0, none⟩) M k1) M (ivs (putAt x K (k + 1))))
    (hs : ((putAt x K (k + 1)).set k x).set (k + 1) r = putAt x K k) (hk : KB B w W) :
    ((W.setCell ⟨n1, k, none⟩ (.int .i64 x)).setCell ⟨n1, k + 1, none⟩ (.int .i64 r)).drew.ownsRow B 3 1 (.slice (some ⟨n1, 0, none⟩) M k1) M (ivs (putAt x K k)) ∧
    KB B w ((W.setCell ⟨n1, k, none⟩ (.int .i64 x)).setCell ⟨n1, k + 1, none⟩ (.int .i64 r)).drew := by
  have b1 := (h1.lt n1 rfl).1
  have e1 : ((ivs (putAt x K (k + 1))).set k (.int .i64 x)).set (k + 1) (.int .i64 r) = ivs (putAt x K k) := by
    rw [← hs]
    unfold ivs
    rw [List.map_set, List.map_set]
  refine ⟨?_, hk.1, ((hk.2.setCell b1 _).setCell b1 _).drew⟩
  have := row_set (row_set h1 k (.int .i64 x)) (k + 1) (.int .i64 r)
  rw [e1] at this
  exact row_drew this
section
variable {w W : World} {g C B : Nat} {Vi Vq V : Value} {Q H L : List Pq}
set_option maxHeartbeats 4000000 in
theorem rhold_any (h : Rk w g C Vi Vq Q H) (hn : H.length ≤ 1000) : Calls Try.prog 17 #[.pointer (some ⟨g, 0, none⟩)] w fun e w' => ∃ U, e = .returned U ∧ w'.ownsRow w.heap.size 3 1 U (rHd (keysOf H)).length (ivs (rHd (keysOf H))) ∧ Below w.heap.size w w' := by
  obtain ⟨i0, hi, hz0, hz1, hz2⟩ := info_parts info3
  have HH := Lib.hid h
  have hnI : (H.length : Int) ≤ 1000 := by omega
  have H0 := Lib.hid (show KB w.heap.size w w from ⟨Nat.le_refl _, Below.refl w.heap.size w⟩)
  have HN := Lib.hid (show w.ownsRow w.heap.size 3 1 (.slice none 0 0) (rHd (keysOf (H.take 0))).length (ivs (rHd (keysOf (H.take 0)))) from World.ownsRow_nil w _ 3 1)
  have c1 := h.box.cell 0
  obtain ⟨Aq, cq, hVq, _⟩ := row2_sl h.i
  subst hVq
  clear h
  go_enter Try.func17, Try.ntmps17
  go_wp2
  go_loopw [3, 4] (fun u i wr => ∃ q : Nat, q ≤ H.length ∧ i = .int .i64 (q : Int) ∧ KB w.heap.size w wr ∧ wr.ownsRow w.heap.size 3 1 u (rHd (keysOf (H.take q))).length (ivs (rHd (keysOf (H.take q))))) (fun _ i _ => H.length - (intOf i).toNat)
  case atStart => exact ⟨0, Nat.zero_le _, rfl, H0.out, HN.out⟩
  case round =>
    obtain ⟨q, hq, rfl, hb, hr⟩ := hrel
    have HB := Lib.hid hb
    have HR := Lib.hid hr
    have cq1 := (HH.out.kept hb.2).box.cell 0
    by_cases hql : q < H.length
    · obtain ⟨p, hp⟩ : ∃ p, H[q]? = some p := ⟨H[q], List.getElem?_eq_getElem _⟩
      obtain ⟨gi, cap, e0, _, hgl, d0, d1⟩ := row2_at (HH.out.kept hb.2).i hp
      cases e0
      have hqI : (q : Int) < (H.length : Int) := by omega
      have HT := Lib.hid (show rHd (keysOf (H.take (q + 1))) = rIns (rHd (keysOf (H.take q))) p.1 from by rw [keys_take hp, rHd_snoc])
      have hkl : (rHd (keysOf (H.take q))).length ≤ 1000 := by rw [rHd_len]; exact Nat.le_trans (keys_take_len H q) hn
      obtain ⟨K, hK⟩ : ∃ K, rHd (keysOf (H.take q)) = K := ⟨_, rfl⟩
      rw [hK] at HR HT hkl
      obtain ⟨y, v⟩ := p
      simp only at d0 HT
      have hbs := hb.2.size
      obtain ⟨A3, c3, _, rfl, _⟩ := nl_row (l := K) HR.out
      clear hb hr hp hK d1 c1
      go_wp2_with (first
        | (at_builtin
           refine wpList_append_lies _ rfl (.tmp 17) (.tmp 26) 34 rfl w.heap.size 3 i0 _ 1 8 Try.underlying34 hi hz0 hz1 hz2 rfl (by decide) (.slice A3 K.length c3) K.length (ivs K) rfl (row_alloc HR.out _) ⟨wr.heap.size, 0, none⟩ 1 1 [.int .i64 y] rfl rfl (World.news_of_block (cs := #[.int .i64 y]) (t := 3) (fr := (0, 0)) (Blk.new wr 3 #[.int .i64 y])) (by simp [Value.oneCell']) (by decide) (by unfold maxLen; omega) (by omega) (by simp; omega) _ rfl ?_
           intro n1 k1 w4 hw hg hat hlt
           have HW4 := Lib.hid hw
           have HB4 := Lib.hid ((HB.out.alloc (.cells #[.int .i64 y] 3)).grown hg (fun j e => (HR.out.lt j e).1))
           clear hw hg hat hlt)
        | fail)
      have HZ := Lib.hid (show (_ : World).ownsRow w.heap.size 3 1 (.slice (some ⟨n1, 0, none⟩) (K.length + 1) k1) (K.length + 1) (ivs (putAt y K K.length)) from by rw [putAt_end, ivs_snoc]; exact HW4.out)
      go_loopw [5] (fun kk wi => ∃ k : Nat, k ≤ K.length ∧ kk = .int .i64 (k : Int) ∧ wi.ownsRow w.heap.size 3 1 (.slice (some ⟨n1, 0, none⟩) (K.length + 1) k1) (K.length + 1) (ivs (putAt y K k)) ∧ KB w.heap.size w wi ∧ posP y K K.length = posP y K k) (fun kk _ => (intOf kk).toNat)
      case atStart => exact ⟨K.length, Nat.le_refl _, by first | rfl | (congr 1; omega) | (congr 1; simp; omega), HZ.out, HB4.out, rfl⟩
      case round =>
        obtain ⟨k, hk, rfl, hT1, hT3, hps⟩ := hrel
        have HT1 := Lib.hid hT1
        have HT3 := Lib.hid hT3
        have HPS := Lib.hid hps
        clear hT1 hT3 hps
        cases k with
        | zero =>
          have hk0I : ¬ ((0 : Nat) : Int) > 0 := by omega
          go_wp2
          go_quiet (fail)
          have HF1 := Lib.hid (row_keep (w2 := wr.drewN nq) HT1.out (fun _ _ => rfl))
          have HF3 := Lib.hid (show KB w.heap.size w (wr.drewN nq) from ⟨HT3.out.1, below_drewN HT3.out.2 nq⟩)
          have HE2 := Lib.hid (show rHd (keysOf (H.take (q + 1))) = putAt y K 0 by rw [HT.out]; unfold rIns; rw [HPS.out]; rfl)
          have HPL := Lib.hid (putAt_len y K 0 (by omega))
          go_wp2
          go_roundw
          case rel => exact ⟨q + 1, by omega, by go_num, HF3.out, by rw [HE2.out, HPL.out]; exact HF1.out⟩
          case measure => simp [intOf]; omega
        | succ k =>
          obtain ⟨r, hr⟩ : ∃ r, K[k]? = some r := ⟨K[k], List.getElem?_eq_getElem _⟩
          obtain ⟨y1c, y1f⟩ := row_at HT1.out (ivs_at (by rw [putAt_left _ K (k + 1) k hk (by omega)]; exact hr))
          obtain ⟨y2c, y2f⟩ := row_at HT1.out (ivs_at (putAt_at y K (k + 1) hk))
          have HSW := Lib.hid (putAt_swap y r K k hk hr)
          have HPE := Lib.hid (show posP y K (k + 1) = if ahdB y r = true then posP y K k else k + 1 by conv => lhs; unfold posP; rw [hr])
          unfold ahdB at HPE
          have hkI : ((k + 1 : Nat) : Int) > 0 := by omega
          have hkc : ((k + 1 : Nat) : Int) = (k : Int) + 1 := by omega
          have i1 : IntKind.i64.wrap ((k : Int) + 1 - 1) = (k : Int) := by rw [show (k : Int) + 1 - 1 = (k : Int) by omega]; exact IntWalk.i64_in _ (by omega)
          have i6 : IntKind.i64.wrap (k : Int) = (k : Int) := IntWalk.i64_in _ (by omega)
          have i2 : (k : Int) + 1 < (K.length : Int) + 1 := by omega
          have i3 : ((k : Int) + 1).toNat = k + 1 := by omega
          have i4 : (0 : Int) ≤ (k : Int) := by omega
          have i5 : (k : Int) < (K.length : Int) + 1 := by omega
          have i7 : (0 : Int) ≤ (k : Int) + 1 := by omega
          clear hr
          by_cases c1 : y < r
          · have HP1 := Lib.hid (show posP y K (k + 1) = posP y K k by rw [HPE.out, if_pos (by simpa using c1)])
            have c1b : (decide (r > y)) = true := decide_eq_true c1
            go_wp2
            go_quiet (fail)
            go_wp2_with fail
            go_region
            have HSR := Lib.hid (swap_row (W := wr.drewN nq) (row_keep HT1.out (fun _ _ => rfl)) HSW.out (⟨HT3.out.1, below_drewN HT3.out.2 nq⟩ : KB w.heap.size w (wr.drewN nq)))
            clear y1c y1f y2c y2f i1 i2 i3 i6
            go_wp2
            go_roundw
            case rel => exact ⟨k, by omega, by first | rfl | (congr 1; omega) | go_num, HSR.out.1, HSR.out.2, HPS.out.trans HP1.out⟩
            case measure => simp [intOf] <;> omega
          · have c1b : (decide (r > y)) = false := decide_eq_false c1
            have c1c : (decide (y < r)) = false := decide_eq_false c1
            have HPX := Lib.hid (show posP y K (k + 1) = k + 1 by rw [HPE.out, if_neg (by simpa using c1)])
            clear c1
            go_wp2
            go_quiet (fail)
            have HF1 := Lib.hid (row_keep (w2 := wr.drewN nq) HT1.out (fun _ _ => rfl))
            have HF3 := Lib.hid (show KB w.heap.size w (wr.drewN nq) from ⟨HT3.out.1, below_drewN HT3.out.2 nq⟩)
            have HE2 := Lib.hid (show rHd (keysOf (H.take (q + 1))) = putAt y K (k + 1) by rw [HT.out]; unfold rIns; rw [HPS.out, HPX.out])
            have HPL := Lib.hid (putAt_len y K (k + 1) (by omega))
            clear y1c y1f y2c y2f i1 i2 i3 i6
            go_wp2
            go_roundw
            case rel => exact ⟨q + 1, by omega, by go_num, HF3.out, by rw [HE2.out, HPL.out]; exact HF1.out⟩
            case measure => simp [intOf]; omega
    · obtain rfl : H.length = q := by omega
      rw [List.take_length] at hr
      have HR2 := Lib.hid hr
      clear hb hr HR
      go_wp2
      go_ret
      exact ⟨_, rfl, HR2.out, HB.out.2⟩
end
end Go.Proofs.Ytkhlimlcnlalgaa
