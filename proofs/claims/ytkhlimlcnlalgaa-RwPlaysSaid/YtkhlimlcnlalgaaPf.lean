/- The reference's lock: move. -/
import Derived.Test.YtkhlimlcnlalgaaPl
namespace Go.Proofs.Ytkhlimlcnlalgaa
open Go.RowKit Go.Maps
open Go.Lib
open Go.ChangeShapes Go.ChangeAt
set_option linter.unusedVariables false
set_option linter.unusedSimpArgs false
set_option maxRecDepth 100000
section
variable {w W : World} {g C B : Nat} {Vi Vq V : Value} {Q H L : List Pq}
set_option maxHeartbeats 8000000 in
theorem rmove_any (h : Rk w g C Vi Vq Q H) (hC : C ≤ w.heap.size) (hn : H.length + Q.length ≤ 1000) (ha : wrB H = true → H.length = 1) : Calls Try.prog 22 #[.pointer (some ⟨g, 0, none⟩)] w fun e w' => ∃ U Vi' Vq', e = .returned U ∧ Rk w' g C Vi' Vq' (mvQ Q H) (mvH Q H) ∧ w'.ownsRow w.heap.size 3 1 U (mvC Q H).length (ivs (mvC Q H)) ∧ Kr w w' g Vi Vq Vi' Vq' := by
  obtain ⟨i0, hi, hz0, hz1, hz2⟩ := info_parts info3
  obtain ⟨i1, hj, hy0, hy1, hy2⟩ := info_parts info48
  have HH := Lib.hid h
  have HK0 := Lib.hid (Kr.refl w g Vi Vq)
  have hgl := h.box.lt
  have HA := Lib.hid ha
  have hCg := h.ge
  clear h ha
  go_enter Try.func22, Try.ntmps22
  go_wp2
  go_loopw [3] (fun u wr => ∃ (V1 V2 : Value) (Q1 H1 : List Pq) (c : List Int), Rk wr g C V1 V2 Q1 H1 ∧ wr.ownsRow w.heap.size 3 1 u c.length (ivs c) ∧ mvC Q H = c ++ mvC Q1 H1 ∧ mvQ Q H = mvQ Q1 H1 ∧ mvH Q H = mvH Q1 H1 ∧ c.length + Q1.length ≤ 1000 ∧ H1.length + Q1.length ≤ 1000 ∧ (wrB H1 = true → H1.length = 1) ∧ Kr w wr g Vi Vq V1 V2 ∧ ∀ j, u.ownBlock = some j → j ≠ g ∧ V1.ownBlock ≠ some j ∧ V2.ownBlock ≠ some j) (fun _ wr => qLen2 wr g)
  case atStart => exact ⟨Vi, Vq, Q, H, [], HH.out, World.ownsRow_nil _ _ _ _, rfl, rfl, rfl, by simp; omega, by omega, HA.out, HK0.out, fun j e => by cases e⟩
  case round =>
    obtain ⟨V1, V2, Q1, H1, c, hl, hr, e1, e2, e3, hcq, hhq, ha1, hk, hap⟩ := hrel
    have HL := Lib.hid hl
    have HR := Lib.hid hr
    have E1 := Lib.hid e1
    have E2 := Lib.hid e2
    have E3 := Lib.hid e3
    have HA1 := Lib.hid ha1
    have HK := Lib.hid hk
    have HAP := Lib.hid hap
    have b0 := hl.box.cell 0
    have b1 := hl.box.cell 1
    obtain ⟨Ai, ci, hV1, _⟩ := row2_sl hl.i
    subst hV1
    obtain ⟨A3, c3, _, rfl, _⟩ := nl_row (l := c) hr
    cases Q1 with
    | nil =>
      obtain ⟨A, cap, hV, _⟩ := row2_sl hl.q
      subst hV
      clear hl hr e1 e2 e3 hk ha1 hap
      go_wp2
      go_ret
      refine ⟨_, _, _, rfl, ?_, ?_, HK.out⟩
      · rw [E2.out, E3.out]; exact HL.out
      · rw [E1.out]
        show World.ownsRow _ _ _ _ _ (c ++ []).length (ivs (c ++ []))
        rw [List.append_nil]
        exact HR.out
    | cons p Q2 =>
      obtain ⟨gq, cap, hV, hcap, hgql, d0, d1⟩ := row2_at hl.q (j := 0) (p := p) rfl
      subst hV
      rw [Nat.zero_mul] at d0 d1
      rw [Nat.zero_add] at d1
      obtain ⟨m, hm⟩ : ∃ m, (p :: Q2).length = m := ⟨_, rfl⟩
      have HM := Lib.hid hm
      have hm1 : 0 < m := by rw [← hm]; simp
      have hmI : (0 : Int) < (m : Int) := by omega
      have hm1000 : (m : Int) ≤ 1000 := by rw [← hm]; omega
      rw [hm] at b1 hcap
      obtain ⟨nh, hnh⟩ : ∃ nh, H1.length = nh := ⟨_, rfl⟩
      have HNH := Lib.hid hnh
      have HMY := Lib.hid (may_ref ha1 p.2)
      rw [hnh] at b0 HMY
      have hgqg : gq ≠ g := fun e => hl.nq (by rw [← e]; rfl)
      obtain ⟨y, v⟩ := p
      simp only at d0 d1 HMY
      obtain ⟨vb, hvb⟩ : ∃ vb, (v == 3) = vb := ⟨_, rfl⟩
      rw [hvb] at d1 HMY
      have HVB := Lib.hid hvb
      have HLX := Lib.hid (hl.kept ((Below.refl wr.heap.size wr).alloc (Nat.le_refl _) (.cells #[.int .i64 y, .bool vb] 48)))
      have x0 := HLX.out.box.cell 0
      have x1 := HLX.out.box.cell 1
      rw [hnh] at x0
      simp only [hm] at x1
      have hglr : g < wr.heap.size := hl.box.lt
      have HST := Lib.hid (fun (hx : mayB H1 v = false) => show mvC ((y, v) :: Q2) H1 = [] ∧ mvQ ((y, v) :: Q2) H1 = (y, v) :: Q2 ∧ mvH ((y, v) :: Q2) H1 = H1 from by
        have hx' : ¬ mayB H1 v = true := by rw [hx]; decide
        unfold mvC mvQ mvH
        rw [if_neg hx', if_neg hx', if_neg hx']
        exact ⟨rfl, rfl, rfl⟩)
      have HGO := Lib.hid (fun (hx : mayB H1 v = true) => show mvC ((y, v) :: Q2) H1 = y :: mvC Q2 (H1 ++ [(y, v)]) ∧ mvQ ((y, v) :: Q2) H1 = mvQ Q2 (H1 ++ [(y, v)]) ∧ mvH ((y, v) :: Q2) H1 = mvH Q2 (H1 ++ [(y, v)]) from by
        refine ⟨?_, ?_, ?_⟩
        · show (if mayB H1 v = true then y :: mvC Q2 (H1 ++ [(y, v)]) else []) = _
          rw [if_pos hx]
        · show (if mayB H1 v = true then mvQ Q2 (H1 ++ [(y, v)]) else (y, v) :: Q2) = _
          rw [if_pos hx]
        · show (if mayB H1 v = true then mvH Q2 (H1 ++ [(y, v)]) else H1) = _
          rw [if_pos hx])
      clear hl hr e1 e2 e3 hk ha1 hap hm hvb
      by_cases h0 : nh = 0
      · have HMB := Lib.hid (show mayB H1 v = true from by rw [HMY.out, h0]; simp)
        subst h0
        cases vb with
        | true =>
          have HBX := Lib.hid (show Blk (wr.alloc (.cells #[.int .i64 y, .bool true] 48)) g 29 #[.slice Ai 0 ci, .slice (some ⟨gq, 0, none⟩) m cap] from by have := HLX.out.box; rw [HNH.out] at this; simpa only [HM.out] using this)
          have HRC := Lib.hid (show rcells [(y, v)] = [.int .i64 y, .bool true] from by unfold rcells cells2; simp only [List.flatMap_cons, List.flatMap_nil, List.append_nil]; rw [HVB.out])
          have HK00 := Lib.hid (show KB wr.heap.size wr wr from ⟨Nat.le_refl _, Below.refl _ _⟩)
          have HLV := Lib.hid (show Rk wr g C (.slice Ai 0 ci) (.slice (some ⟨gq, 0, none⟩) m cap) ((y, v) :: Q2) H1 from by have := HL.out; rw [HNH.out] at this; simpa only [HM.out] using this)
          have HXN := Lib.hid (show (Value.slice Ai 0 ci).ownBlock = some wr.heap.size → False from fun e => by have := (HLV.out.i.lt _ e).2; omega)
          have HNI := Lib.hid (show (Value.slice Ai 0 ci).ownBlock = some g → False from fun e => HLX.out.ni (by rw [HNH.out]; exact e))
          have HRI := Lib.hid (show (wr.alloc (.cells #[.int .i64 y, .bool true] 48)).ownsRow C 48 2 (.slice Ai 0 ci) 0 (rcells H1) from HNH.out ▸ HLX.out.i)
          have hsz : C ≤ wr.heap.size := by have := HK.out.size; omega
          have hxg : (wr.alloc (.cells #[.int .i64 y, .bool true] 48)).cell? ⟨wr.heap.size, 0, none⟩ = some (.int .i64 y) := (Blk.new wr 48 #[.int .i64 y, .bool true]).cell 0
          go_wp2_with fail
          go_region_law (first
            | (refine step_append_lies _ rfl (.tmp 48) (.tmp 50) 27 rfl C 48 i1 _ 2 16 Try.underlying27 hj hy0 hy1 hy2 rfl (by decide) (.slice Ai 0 ci) 0 (rcells H1) rfl ?_ ⟨wr.heap.size + 1, 0, none⟩ 1 1 [.int .i64 y, .bool true] rfl rfl (World.news_of_block (cs := #[.int .i64 y, .bool true]) (t := 48) (fr := (0, 0)) ?_) (by simp [Value.oneCell']) (by decide) (by unfold maxLen; omega) (by omega) ?_ _ rfl ?_
               focus ((repeat (first | with_reducible exact HRI.out | with_reducible refine row2_alloc ?_ _ | with_reducible refine row2_drew ?_)); done)
               focus (change Blk _ _ 48 #[.int .i64 y, .bool true]; (repeat (first | ((with_reducible refine Blk.newEq _ _ ?_); focus (simp; done)) | with_reducible refine Blk.alloc ?_ _ | with_reducible refine Blk.drew ?_)); done)
               focus (refine Nat.le_trans hsz (show Sz wr _ from ?_); (repeat (first | with_reducible assumption | with_reducible exact Sz.refl _ | with_reducible refine Sz.alloc ?_ _ | with_reducible refine Sz.drew ?_)); done)
               intro n1 k1 w3 hw hg hat hlt
               have HW3 := Lib.hid hw
               have HG3 := Lib.hid hg
               have HAT3 := Lib.hid hat
               have hbx : Blk w3 g 29 #[.slice Ai 0 ci, .slice (some ⟨gq, 0, none⟩) m cap] := pastg (show Blk _ g 29 #[.slice Ai 0 ci, .slice (some ⟨gq, 0, none⟩) m cap] from by (repeat (first | with_reducible exact HBX.out | with_reducible refine Blk.alloc ?_ _ | with_reducible refine Blk.drew ?_))) hg (fun e => HNI.out e)
               have hf3 := hbx.frozen 0
               have hc3 := hbx.cell 0
               have HB3 := Lib.hid hbx
               have HD := Lib.hid (in_done2 (H' := H1 ++ [(y, v)]) (n := 1) HLV.out (by (repeat (first | with_reducible exact HK00.out | with_reducible refine KB.alloc ?_ _ | with_reducible refine KB.drew ?_))) hg (by rw [rcells_append, HRC.out]; exact hw) (by rw [List.length_append, HNH.out]; rfl) (hat.imp id (fun e => Nat.le_of_eq e.symm)))
               have HXB := Lib.hid (pastg (show Blk _ wr.heap.size 48 #[.int .i64 y, .bool true] from by (repeat (first | with_reducible exact Blk.new _ _ _ | with_reducible refine Blk.alloc ?_ _ | with_reducible refine Blk.drew ?_))) hg (fun e => HXN.out e))
               clear hw hg hat hlt hbx))
          all_goals (
            have hgx : ¬ g = wr.heap.size := by omega
            have HX4 := Lib.hid (show Blk (w3.setCell ⟨g, 0, none⟩ (.slice (some ⟨n1, 0, none⟩) 1 k1)) wr.heap.size 48 #[.int .i64 y, .bool true] from (Below.heap_setCell w3 ⟨g, 0, none⟩ _ wr.heap.size (fun e => hgx e.symm)).trans HXB.out)
            obtain ⟨w4, hw4⟩ : ∃ w4, w3.setCell ⟨g, 0, none⟩ (.slice (some ⟨n1, 0, none⟩) 1 k1) = w4 := ⟨_, rfl⟩
            rw [hw4] at HX4 HD ⊢
            clear hw4 hf3 hc3
            have HD1 := Lib.hid HD.out.1
            have HD2 := Lib.hid HD.out.2
            have hs4 : wr.heap.size ≤ w4.heap.size := HD2.out.size
            obtain ⟨A', hcut, hA'⟩ := cut_rest (some ⟨gq, 0, none⟩) m cap (by omega)
            have HA' := Lib.hid hA'
            have b1' := (HD1.out.kept ((Below.refl w4.heap.size w4).alloc (Nat.le_refl _) (.cells #[] 48))).box.cell 1
            have HQL := Lib.hid (show (rcells Q2).length = (m - 1) * 2 from by rw [rcells_len, ← HM.out]; rfl)
            have HQC := Lib.hid (fun (hp : 0 < m - 1) => show ∃ ad, A' = some ad ∧ ∀ j u, (rcells Q2)[j]? = some u → (w4.alloc (.cells #[] 48)).cell? (ad.add j) = some u from by
              refine ⟨⟨gq, 2, none⟩, by rw [HA'.out hp hcap]; rfl, fun j u hju => ?_⟩
              obtain ⟨g', cap', e0, _, _, _, _, hcs⟩ := row2_slice (HD1.out.kept ((Below.refl w4.heap.size w4).alloc (Nat.le_refl _) (.cells #[] 48))).q (by simp)
              cases e0
              have := (hcs (2 + j) u (by
                show (cells2 (y, v) ++ rcells Q2)[2 + j]? = some u
                rw [List.getElem?_append_right (by show 2 ≤ 2 + j; omega)]
                show (rcells Q2)[2 + j - 2]? = some u
                rw [Nat.add_sub_cancel_left]; exact hju)).1
              rw [add_plain]; exact this)
            clear hA'
            go_wp2_with (first
              | (at_builtin
                 refine wpList_append_any rfl (.tmp 55) (.tmp 60) 27 rfl C 48 i1 _ 2 16 Try.underlying27 hj hy0 hy1 hy2 rfl (by decide) (.slice (some ⟨w4.heap.size, 0, none⟩) 0 0) 0 [] rfl (World.ownsRow_lit w4 #[] 0 (by omega) (by decide) rfl) A' (m - 1) (cap - 1) (rcells Q2) rfl HQL.out HQC.out (rcells_one _) (by unfold maxLen; omega) (by omega) (by simp; omega) ?_
                 intro V5 w5 hq hg ho
                 rw [Nat.zero_add, List.nil_append] at hq
                 obtain ⟨A5, c5, rfl, _⟩ := row2_sl hq
                 have HR6 := Lib.hid (show (w5.setCell ⟨g, 1, none⟩ (.slice A5 (m - 1) c5)).ownsRow w.heap.size 3 1 (.slice A3 c.length c3) c.length (ivs c) from row_keep HR.out (fun j hj => by
                   obtain ⟨p1, p2, p3⟩ := HAP.out j hj
                   have hjl := (HR.out.lt j hj).2
                   refine (Below.heap_setCell w5 ⟨g, 1, none⟩ _ j p1).trans ((hg.block j (by simp; omega) (fun e => absurd (show w4.heap.size = j from Option.some.inj e.symm) (by omega))).trans ((Below.heap_alloc w4 _ j (by omega)).trans (HD2.out.block j hjl p1 (fun e => p2 (by rw [HNH.out]; exact e)) (fun e => p3 (by rw [← HM.out] at e; exact e)))))))
                 have HV5 := Lib.hid hq
                 have HG5 := Lib.hid hg
                 have HO5 := Lib.hid ho
                 have hb5 : Blk w5 g 29 #[.slice (some ⟨n1, 0, none⟩) 1 k1, .slice (some ⟨gq, 0, none⟩) m cap] := (hg.block g (by simp; omega) (fun e => absurd (show w4.heap.size = g from Option.some.inj e.symm) (by omega))).trans (HD1.out.kept ((Below.refl w4.heap.size w4).alloc (Nat.le_refl _) (.cells #[] 48))).box
                 have hf5 := hb5.frozen 1
                 have hc5 := hb5.cell 1
                 have hx5 : Blk w5 wr.heap.size 48 #[.int .i64 y, .bool true] := (hg.block wr.heap.size (by have h4 := HX4.out.lt; simp; omega) (fun e => absurd (show w4.heap.size = wr.heap.size from Option.some.inj e.symm) (Nat.ne_of_gt HX4.out.lt))).trans ((Below.heap_alloc w4 _ wr.heap.size HX4.out.lt).trans HX4.out)
                 have hx50 := (show Blk (w5.setCell ⟨g, 1, none⟩ (.slice A5 (m - 1) c5)) wr.heap.size 48 #[.int .i64 y, .bool true] from (Below.heap_setCell w5 ⟨g, 1, none⟩ _ wr.heap.size (fun e => hgx e.symm)).trans hx5).cell 0
                 have HB5 := Lib.hid hb5
                 clear hq hg ho hb5 hx5)
              | (at_builtin
                 refine wpList_append_lies _ rfl (.tmp 64) (.tmp 67) 34 rfl w.heap.size 3 i0 _ 1 8 Try.underlying34 hi hz0 hz1 hz2 rfl (by decide) (.slice A3 c.length c3) c.length (ivs c) rfl (row_alloc HR6.out _) ⟨w5.heap.size, 0, none⟩ 1 1 [.int .i64 y] rfl rfl (World.news_of_block (cs := #[.int .i64 y]) (t := 3) (fr := (0, 0)) (Blk.newEq 3 #[.int .i64 y] (set_size _ _ _))) (by simp [Value.oneCell']) (by decide) (by unfold maxLen; omega) (by omega) ?_ _ rfl ?_
                 focus (have h1 := HK.out.size; have h2 := HG5.out.size; simp [World.setCell] at h2 ⊢; omega)
                 intro n7 k7 w7 hw hg hat hlt
                 have HW7 := Lib.hid hw
                 have HG7 := Lib.hid hg
                 have HAT7 := Lib.hid hat
                 clear hw hg hat hlt)
              | fail)
            have hq2 : Q2.length = m - 1 := by rw [← HM.out]; rfl
            have HQ6 := Lib.hid (queue_done HD1.out (by omega) HG5.out HV5.out hq2 HO5.out)
            have HKN := Lib.hid (show Kr w wr g Vi Vq (.slice Ai 0 ci) (.slice (some ⟨gq, 0, none⟩) m cap) from by have := HK.out; rw [HNH.out] at this; simpa only [HM.out] using this)
            have HAPN := Lib.hid (show ∀ j, (Value.slice A3 c.length c3).ownBlock = some j → j ≠ g ∧ (Value.slice Ai 0 ci).ownBlock ≠ some j ∧ (Value.slice (some ⟨gq, 0, none⟩) m cap).ownBlock ≠ some j from by have := HAP.out; rw [HNH.out] at this; simpa only [HM.out] using this)
            have HZ := Lib.hid (mv_done (y := y) HR.out HKN.out HAPN.out HQ6.out.1 (HD2.out.trans HQ6.out.2) HG7.out HW7.out HAT7.out)
            have hcm : c.length + m ≤ 1000 := by rw [← HM.out]; exact hcq
            have hhm : H1.length + m ≤ 1000 := by rw [← HM.out]; exact hhq
            go_roundw
            case rel =>
              obtain ⟨z1, z2, z3, z4⟩ := HZ.out
              refine ⟨_, _, Q2, H1 ++ [(y, v)], c ++ [y], z1, ?_, ?_, E2.out.trans (HGO.out HMB.out).2.1, E3.out.trans (HGO.out HMB.out).2.2, ?_, ?_, alone_in_mv HA1.out HMB.out, z3, ?_⟩
              · exact z2
              · rw [E1.out, (HGO.out HMB.out).1, List.append_assoc]; rfl
              · rw [List.length_append, hq2]; simp only [List.length_cons, List.length_nil]; omega
              · rw [List.length_append, hq2]; simp only [List.length_cons, List.length_nil]; omega
              · exact z4
            case measure =>
              rw [qlen_of HZ.out.1, qlen_of HLV.out]; omega)
        | false =>
          have HBX := Lib.hid (show Blk (wr.alloc (.cells #[.int .i64 y, .bool false] 48)) g 29 #[.slice Ai 0 ci, .slice (some ⟨gq, 0, none⟩) m cap] from by have := HLX.out.box; rw [HNH.out] at this; simpa only [HM.out] using this)
          have HRC := Lib.hid (show rcells [(y, v)] = [.int .i64 y, .bool false] from by unfold rcells cells2; simp only [List.flatMap_cons, List.flatMap_nil, List.append_nil]; rw [HVB.out])
          have HK00 := Lib.hid (show KB wr.heap.size wr wr from ⟨Nat.le_refl _, Below.refl _ _⟩)
          have HLV := Lib.hid (show Rk wr g C (.slice Ai 0 ci) (.slice (some ⟨gq, 0, none⟩) m cap) ((y, v) :: Q2) H1 from by have := HL.out; rw [HNH.out] at this; simpa only [HM.out] using this)
          have HXN := Lib.hid (show (Value.slice Ai 0 ci).ownBlock = some wr.heap.size → False from fun e => by have := (HLV.out.i.lt _ e).2; omega)
          have HNI := Lib.hid (show (Value.slice Ai 0 ci).ownBlock = some g → False from fun e => HLX.out.ni (by rw [HNH.out]; exact e))
          have HRI := Lib.hid (show (wr.alloc (.cells #[.int .i64 y, .bool false] 48)).ownsRow C 48 2 (.slice Ai 0 ci) 0 (rcells H1) from HNH.out ▸ HLX.out.i)
          have hsz : C ≤ wr.heap.size := by have := HK.out.size; omega
          have hxg : (wr.alloc (.cells #[.int .i64 y, .bool false] 48)).cell? ⟨wr.heap.size, 0, none⟩ = some (.int .i64 y) := (Blk.new wr 48 #[.int .i64 y, .bool false]).cell 0
          go_wp2_with fail
          go_region_law (first
            | (refine step_append_lies _ rfl (.tmp 48) (.tmp 50) 27 rfl C 48 i1 _ 2 16 Try.underlying27 hj hy0 hy1 hy2 rfl (by decide) (.slice Ai 0 ci) 0 (rcells H1) rfl ?_ ⟨wr.heap.size + 1, 0, none⟩ 1 1 [.int .i64 y, .bool false] rfl rfl (World.news_of_block (cs := #[.int .i64 y, .bool false]) (t := 48) (fr := (0, 0)) ?_) (by simp [Value.oneCell']) (by decide) (by unfold maxLen; omega) (by omega) ?_ _ rfl ?_
               focus ((repeat (first | with_reducible exact HRI.out | with_reducible refine row2_alloc ?_ _ | with_reducible refine row2_drew ?_)); done)
               focus (change Blk _ _ 48 #[.int .i64 y, .bool false]; (repeat (first | ((with_reducible refine Blk.newEq _ _ ?_); focus (simp; done)) | with_reducible refine Blk.alloc ?_ _ | with_reducible refine Blk.drew ?_)); done)
               focus (refine Nat.le_trans hsz (show Sz wr _ from ?_); (repeat (first | with_reducible assumption | with_reducible exact Sz.refl _ | with_reducible refine Sz.alloc ?_ _ | with_reducible refine Sz.drew ?_)); done)
               intro n1 k1 w3 hw hg hat hlt
               have HW3 := Lib.hid hw
               have HG3 := Lib.hid hg
               have HAT3 := Lib.hid hat
               have hbx : Blk w3 g 29 #[.slice Ai 0 ci, .slice (some ⟨gq, 0, none⟩) m cap] := pastg (show Blk _ g 29 #[.slice Ai 0 ci, .slice (some ⟨gq, 0, none⟩) m cap] from by (repeat (first | with_reducible exact HBX.out | with_reducible refine Blk.alloc ?_ _ | with_reducible refine Blk.drew ?_))) hg (fun e => HNI.out e)
               have hf3 := hbx.frozen 0
               have hc3 := hbx.cell 0
               have HB3 := Lib.hid hbx
               have HD := Lib.hid (in_done2 (H' := H1 ++ [(y, v)]) (n := 1) HLV.out (by (repeat (first | with_reducible exact HK00.out | with_reducible refine KB.alloc ?_ _ | with_reducible refine KB.drew ?_))) hg (by rw [rcells_append, HRC.out]; exact hw) (by rw [List.length_append, HNH.out]; rfl) (hat.imp id (fun e => Nat.le_of_eq e.symm)))
               have HXB := Lib.hid (pastg (show Blk _ wr.heap.size 48 #[.int .i64 y, .bool false] from by (repeat (first | with_reducible exact Blk.new _ _ _ | with_reducible refine Blk.alloc ?_ _ | with_reducible refine Blk.drew ?_))) hg (fun e => HXN.out e))
               clear hw hg hat hlt hbx))
          all_goals (
            have hgx : ¬ g = wr.heap.size := by omega
            have HX4 := Lib.hid (show Blk (w3.setCell ⟨g, 0, none⟩ (.slice (some ⟨n1, 0, none⟩) 1 k1)) wr.heap.size 48 #[.int .i64 y, .bool false] from (Below.heap_setCell w3 ⟨g, 0, none⟩ _ wr.heap.size (fun e => hgx e.symm)).trans HXB.out)
            obtain ⟨w4, hw4⟩ : ∃ w4, w3.setCell ⟨g, 0, none⟩ (.slice (some ⟨n1, 0, none⟩) 1 k1) = w4 := ⟨_, rfl⟩
            rw [hw4] at HX4 HD ⊢
            clear hw4 hf3 hc3
            have HD1 := Lib.hid HD.out.1
            have HD2 := Lib.hid HD.out.2
            have hs4 : wr.heap.size ≤ w4.heap.size := HD2.out.size
            obtain ⟨A', hcut, hA'⟩ := cut_rest (some ⟨gq, 0, none⟩) m cap (by omega)
            have HA' := Lib.hid hA'
            have b1' := (HD1.out.kept ((Below.refl w4.heap.size w4).alloc (Nat.le_refl _) (.cells #[] 48))).box.cell 1
            have HQL := Lib.hid (show (rcells Q2).length = (m - 1) * 2 from by rw [rcells_len, ← HM.out]; rfl)
            have HQC := Lib.hid (fun (hp : 0 < m - 1) => show ∃ ad, A' = some ad ∧ ∀ j u, (rcells Q2)[j]? = some u → (w4.alloc (.cells #[] 48)).cell? (ad.add j) = some u from by
              refine ⟨⟨gq, 2, none⟩, by rw [HA'.out hp hcap]; rfl, fun j u hju => ?_⟩
              obtain ⟨g', cap', e0, _, _, _, _, hcs⟩ := row2_slice (HD1.out.kept ((Below.refl w4.heap.size w4).alloc (Nat.le_refl _) (.cells #[] 48))).q (by simp)
              cases e0
              have := (hcs (2 + j) u (by
                show (cells2 (y, v) ++ rcells Q2)[2 + j]? = some u
                rw [List.getElem?_append_right (by show 2 ≤ 2 + j; omega)]
                show (rcells Q2)[2 + j - 2]? = some u
                rw [Nat.add_sub_cancel_left]; exact hju)).1
              rw [add_plain]; exact this)
            clear hA'
            go_wp2_with (first
              | (at_builtin
                 refine wpList_append_any rfl (.tmp 55) (.tmp 60) 27 rfl C 48 i1 _ 2 16 Try.underlying27 hj hy0 hy1 hy2 rfl (by decide) (.slice (some ⟨w4.heap.size, 0, none⟩) 0 0) 0 [] rfl (World.ownsRow_lit w4 #[] 0 (by omega) (by decide) rfl) A' (m - 1) (cap - 1) (rcells Q2) rfl HQL.out HQC.out (rcells_one _) (by unfold maxLen; omega) (by omega) (by simp; omega) ?_
                 intro V5 w5 hq hg ho
                 rw [Nat.zero_add, List.nil_append] at hq
                 obtain ⟨A5, c5, rfl, _⟩ := row2_sl hq
                 have HR6 := Lib.hid (show (w5.setCell ⟨g, 1, none⟩ (.slice A5 (m - 1) c5)).ownsRow w.heap.size 3 1 (.slice A3 c.length c3) c.length (ivs c) from row_keep HR.out (fun j hj => by
                   obtain ⟨p1, p2, p3⟩ := HAP.out j hj
                   have hjl := (HR.out.lt j hj).2
                   refine (Below.heap_setCell w5 ⟨g, 1, none⟩ _ j p1).trans ((hg.block j (by simp; omega) (fun e => absurd (show w4.heap.size = j from Option.some.inj e.symm) (by omega))).trans ((Below.heap_alloc w4 _ j (by omega)).trans (HD2.out.block j hjl p1 (fun e => p2 (by rw [HNH.out]; exact e)) (fun e => p3 (by rw [← HM.out] at e; exact e)))))))
                 have HV5 := Lib.hid hq
                 have HG5 := Lib.hid hg
                 have HO5 := Lib.hid ho
                 have hb5 : Blk w5 g 29 #[.slice (some ⟨n1, 0, none⟩) 1 k1, .slice (some ⟨gq, 0, none⟩) m cap] := (hg.block g (by simp; omega) (fun e => absurd (show w4.heap.size = g from Option.some.inj e.symm) (by omega))).trans (HD1.out.kept ((Below.refl w4.heap.size w4).alloc (Nat.le_refl _) (.cells #[] 48))).box
                 have hf5 := hb5.frozen 1
                 have hc5 := hb5.cell 1
                 have hx5 : Blk w5 wr.heap.size 48 #[.int .i64 y, .bool false] := (hg.block wr.heap.size (by have h4 := HX4.out.lt; simp; omega) (fun e => absurd (show w4.heap.size = wr.heap.size from Option.some.inj e.symm) (Nat.ne_of_gt HX4.out.lt))).trans ((Below.heap_alloc w4 _ wr.heap.size HX4.out.lt).trans HX4.out)
                 have hx50 := (show Blk (w5.setCell ⟨g, 1, none⟩ (.slice A5 (m - 1) c5)) wr.heap.size 48 #[.int .i64 y, .bool false] from (Below.heap_setCell w5 ⟨g, 1, none⟩ _ wr.heap.size (fun e => hgx e.symm)).trans hx5).cell 0
                 have HB5 := Lib.hid hb5
                 clear hq hg ho hb5 hx5)
              | (at_builtin
                 refine wpList_append_lies _ rfl (.tmp 64) (.tmp 67) 34 rfl w.heap.size 3 i0 _ 1 8 Try.underlying34 hi hz0 hz1 hz2 rfl (by decide) (.slice A3 c.length c3) c.length (ivs c) rfl (row_alloc HR6.out _) ⟨w5.heap.size, 0, none⟩ 1 1 [.int .i64 y] rfl rfl (World.news_of_block (cs := #[.int .i64 y]) (t := 3) (fr := (0, 0)) (Blk.newEq 3 #[.int .i64 y] (set_size _ _ _))) (by simp [Value.oneCell']) (by decide) (by unfold maxLen; omega) (by omega) ?_ _ rfl ?_
                 focus (have h1 := HK.out.size; have h2 := HG5.out.size; simp [World.setCell] at h2 ⊢; omega)
                 intro n7 k7 w7 hw hg hat hlt
                 have HW7 := Lib.hid hw
                 have HG7 := Lib.hid hg
                 have HAT7 := Lib.hid hat
                 clear hw hg hat hlt)
              | fail)
            have hq2 : Q2.length = m - 1 := by rw [← HM.out]; rfl
            have HQ6 := Lib.hid (queue_done HD1.out (by omega) HG5.out HV5.out hq2 HO5.out)
            have HKN := Lib.hid (show Kr w wr g Vi Vq (.slice Ai 0 ci) (.slice (some ⟨gq, 0, none⟩) m cap) from by have := HK.out; rw [HNH.out] at this; simpa only [HM.out] using this)
            have HAPN := Lib.hid (show ∀ j, (Value.slice A3 c.length c3).ownBlock = some j → j ≠ g ∧ (Value.slice Ai 0 ci).ownBlock ≠ some j ∧ (Value.slice (some ⟨gq, 0, none⟩) m cap).ownBlock ≠ some j from by have := HAP.out; rw [HNH.out] at this; simpa only [HM.out] using this)
            have HZ := Lib.hid (mv_done (y := y) HR.out HKN.out HAPN.out HQ6.out.1 (HD2.out.trans HQ6.out.2) HG7.out HW7.out HAT7.out)
            have hcm : c.length + m ≤ 1000 := by rw [← HM.out]; exact hcq
            have hhm : H1.length + m ≤ 1000 := by rw [← HM.out]; exact hhq
            go_roundw
            case rel =>
              obtain ⟨z1, z2, z3, z4⟩ := HZ.out
              refine ⟨_, _, Q2, H1 ++ [(y, v)], c ++ [y], z1, ?_, ?_, E2.out.trans (HGO.out HMB.out).2.1, E3.out.trans (HGO.out HMB.out).2.2, ?_, ?_, alone_in_mv HA1.out HMB.out, z3, ?_⟩
              · exact z2
              · rw [E1.out, (HGO.out HMB.out).1, List.append_assoc]; rfl
              · rw [List.length_append, hq2]; simp only [List.length_cons, List.length_nil]; omega
              · rw [List.length_append, hq2]; simp only [List.length_cons, List.length_nil]; omega
              · exact z4
            case measure =>
              rw [qlen_of HZ.out.1, qlen_of HLV.out]; omega)
      · have hnhI : (decide ((nh : Int) > 0)) = true := decide_eq_true (by omega)
        obtain ⟨p0, hp0⟩ : ∃ p0, H1[0]? = some p0 := ⟨H1[0]'(by rw [HNH.out]; omega), List.getElem?_eq_getElem _⟩
        obtain ⟨gi, ci', e0, _, hgil, _, f1⟩ := row2_at HLX.out.i hp0
        have e0' : (⟨gi, 0, none⟩ : Addr) = ⟨gi, 0, none⟩ := rfl
        cases e0
        rw [Nat.zero_mul, Nat.zero_add] at f1
        have hnh0 : (0 : Int) < (nh : Int) := by omega
        have HW0 := Lib.hid (show hwB H1 = (p0.2 == 3) from by
          cases H1 with
          | nil => simp at hp0
          | cons a b => cases hp0; rfl)
        obtain ⟨hwv, hhw⟩ : ∃ hwv, (p0.2 == 3) = hwv := ⟨_, rfl⟩
        rw [hhw] at f1 HW0
        clear hp0 hhw
        have hd0 : decide (0 < nh) = true := decide_eq_true (by omega)
        cases vb with
        | true =>
          have HMB := Lib.hid (show mayB H1 v = false from by rw [HMY.out, hd0]; rfl)
          clear hd0
          go_wp2
          go_ret
          obtain ⟨s1, s2, s3⟩ := HST.out HMB.out
          refine ⟨_, rfl, _, _, ?_, ?_, HK.out.trans (Kr.of ((Below.refl wr.heap.size wr).alloc (Nat.le_refl _) _))⟩
          · rw [E2.out, E3.out, s2, s3]; exact HLX.out
          · rw [E1.out, s1, List.append_nil]
            exact row_alloc HR.out _
        | false =>
          cases hwv with
          | true =>
            have HMB := Lib.hid (show mayB H1 v = false from by rw [HMY.out, hd0, HW0.out]; rfl)
            clear hd0
            go_wp2
            go_ret
            obtain ⟨s1, s2, s3⟩ := HST.out HMB.out
            refine ⟨_, rfl, _, _, ?_, ?_, HK.out.trans (Kr.of ((Below.refl wr.heap.size wr).alloc (Nat.le_refl _) _))⟩
            · rw [E2.out, E3.out, s2, s3]; exact HLX.out
            · rw [E1.out, s1, List.append_nil]
              exact row_alloc HR.out _
          | false =>
            have HMB := Lib.hid (show mayB H1 v = true from by rw [HMY.out, hd0, HW0.out]; rfl)
            clear hd0
            have HBX := Lib.hid (show Blk (wr.alloc (.cells #[.int .i64 y, .bool false] 48)) g 29 #[.slice (some ⟨gi, 0, none⟩) nh ci, .slice (some ⟨gq, 0, none⟩) m cap] from by have := HLX.out.box; rw [HNH.out] at this; simpa only [HM.out] using this)
            have HRC := Lib.hid (show rcells [(y, v)] = [.int .i64 y, .bool false] from by unfold rcells cells2; simp only [List.flatMap_cons, List.flatMap_nil, List.append_nil]; rw [HVB.out])
            have HK00 := Lib.hid (show KB wr.heap.size wr wr from ⟨Nat.le_refl _, Below.refl _ _⟩)
            have HLV := Lib.hid (show Rk wr g C (.slice (some ⟨gi, 0, none⟩) nh ci) (.slice (some ⟨gq, 0, none⟩) m cap) ((y, v) :: Q2) H1 from by have := HL.out; rw [HNH.out] at this; simpa only [HM.out] using this)
            have HXN := Lib.hid (show (Value.slice (some ⟨gi, 0, none⟩) nh ci).ownBlock = some wr.heap.size → False from fun e => by have := (HLV.out.i.lt _ e).2; omega)
            have HNI := Lib.hid (show (Value.slice (some ⟨gi, 0, none⟩) nh ci).ownBlock = some g → False from fun e => HLX.out.ni e)
            have HRI := Lib.hid (show (wr.alloc (.cells #[.int .i64 y, .bool false] 48)).ownsRow C 48 2 (.slice (some ⟨gi, 0, none⟩) nh ci) nh (rcells H1) from HNH.out ▸ HLX.out.i)
            have hsz : C ≤ wr.heap.size := by have := HK.out.size; omega
            have hxg : (wr.alloc (.cells #[.int .i64 y, .bool false] 48)).cell? ⟨wr.heap.size, 0, none⟩ = some (.int .i64 y) := (Blk.new wr 48 #[.int .i64 y, .bool false]).cell 0
            go_wp2_with fail
            go_region_law (first
              | (refine step_append_lies _ rfl (.tmp 48) (.tmp 50) 27 rfl C 48 i1 _ 2 16 Try.underlying27 hj hy0 hy1 hy2 rfl (by decide) (.slice (some ⟨gi, 0, none⟩) nh ci) nh (rcells H1) rfl ?_ ⟨wr.heap.size + 1, 0, none⟩ 1 1 [.int .i64 y, .bool false] rfl rfl (World.news_of_block (cs := #[.int .i64 y, .bool false]) (t := 48) (fr := (0, 0)) ?_) (by simp [Value.oneCell']) (by decide) (by unfold maxLen; omega) (by omega) ?_ _ rfl ?_
                 focus ((repeat (first | with_reducible exact HRI.out | with_reducible refine row2_alloc ?_ _ | with_reducible refine row2_drew ?_)); done)
                 focus (change Blk _ _ 48 #[.int .i64 y, .bool false]; (repeat (first | ((with_reducible refine Blk.newEq _ _ ?_); focus (simp; done)) | with_reducible refine Blk.alloc ?_ _ | with_reducible refine Blk.drew ?_)); done)
                 focus (refine Nat.le_trans hsz (show Sz wr _ from ?_); (repeat (first | with_reducible assumption | with_reducible exact Sz.refl _ | with_reducible refine Sz.alloc ?_ _ | with_reducible refine Sz.drew ?_)); done)
                 intro n1 k1 w3 hw hg hat hlt
                 have HW3 := Lib.hid hw
                 have HG3 := Lib.hid hg
                 have HAT3 := Lib.hid hat
                 have hbx : Blk w3 g 29 #[.slice (some ⟨gi, 0, none⟩) nh ci, .slice (some ⟨gq, 0, none⟩) m cap] := pastg (show Blk _ g 29 #[.slice (some ⟨gi, 0, none⟩) nh ci, .slice (some ⟨gq, 0, none⟩) m cap] from by (repeat (first | with_reducible exact HBX.out | with_reducible refine Blk.alloc ?_ _ | with_reducible refine Blk.drew ?_))) hg (fun e => HNI.out e)
                 have hf3 := hbx.frozen 0
                 have hc3 := hbx.cell 0
                 have HB3 := Lib.hid hbx
                 have HD := Lib.hid (in_done2 (H' := H1 ++ [(y, v)]) (n := (nh + 1)) HLV.out (by (repeat (first | with_reducible exact HK00.out | with_reducible refine KB.alloc ?_ _ | with_reducible refine KB.drew ?_))) hg (by rw [rcells_append, HRC.out]; exact hw) (by rw [List.length_append, HNH.out]; rfl) (hat.imp id (fun e => Nat.le_of_eq e.symm)))
                 have HXB := Lib.hid (pastg (show Blk _ wr.heap.size 48 #[.int .i64 y, .bool false] from by (repeat (first | with_reducible exact Blk.new _ _ _ | with_reducible refine Blk.alloc ?_ _ | with_reducible refine Blk.drew ?_))) hg (fun e => HXN.out e))
                 clear hw hg hat hlt hbx))
            all_goals (
              have hgx : ¬ g = wr.heap.size := by omega
              have HX4 := Lib.hid (show Blk (w3.setCell ⟨g, 0, none⟩ (.slice (some ⟨n1, 0, none⟩) (nh + 1) k1)) wr.heap.size 48 #[.int .i64 y, .bool false] from (Below.heap_setCell w3 ⟨g, 0, none⟩ _ wr.heap.size (fun e => hgx e.symm)).trans HXB.out)
              obtain ⟨w4, hw4⟩ : ∃ w4, w3.setCell ⟨g, 0, none⟩ (.slice (some ⟨n1, 0, none⟩) (nh + 1) k1) = w4 := ⟨_, rfl⟩
              rw [hw4] at HX4 HD ⊢
              clear hw4 hf3 hc3
              have HD1 := Lib.hid HD.out.1
              have HD2 := Lib.hid HD.out.2
              have hs4 : wr.heap.size ≤ w4.heap.size := HD2.out.size
              obtain ⟨A', hcut, hA'⟩ := cut_rest (some ⟨gq, 0, none⟩) m cap (by omega)
              have HA' := Lib.hid hA'
              have b1' := (HD1.out.kept ((Below.refl w4.heap.size w4).alloc (Nat.le_refl _) (.cells #[] 48))).box.cell 1
              have HQL := Lib.hid (show (rcells Q2).length = (m - 1) * 2 from by rw [rcells_len, ← HM.out]; rfl)
              have HQC := Lib.hid (fun (hp : 0 < m - 1) => show ∃ ad, A' = some ad ∧ ∀ j u, (rcells Q2)[j]? = some u → (w4.alloc (.cells #[] 48)).cell? (ad.add j) = some u from by
                refine ⟨⟨gq, 2, none⟩, by rw [HA'.out hp hcap]; rfl, fun j u hju => ?_⟩
                obtain ⟨g', cap', e0, _, _, _, _, hcs⟩ := row2_slice (HD1.out.kept ((Below.refl w4.heap.size w4).alloc (Nat.le_refl _) (.cells #[] 48))).q (by simp)
                cases e0
                have := (hcs (2 + j) u (by
                  show (cells2 (y, v) ++ rcells Q2)[2 + j]? = some u
                  rw [List.getElem?_append_right (by show 2 ≤ 2 + j; omega)]
                  show (rcells Q2)[2 + j - 2]? = some u
                  rw [Nat.add_sub_cancel_left]; exact hju)).1
                rw [add_plain]; exact this)
              clear hA'
              go_wp2_with (first
                | (at_builtin
                   refine wpList_append_any rfl (.tmp 55) (.tmp 60) 27 rfl C 48 i1 _ 2 16 Try.underlying27 hj hy0 hy1 hy2 rfl (by decide) (.slice (some ⟨w4.heap.size, 0, none⟩) 0 0) 0 [] rfl (World.ownsRow_lit w4 #[] 0 (by omega) (by decide) rfl) A' (m - 1) (cap - 1) (rcells Q2) rfl HQL.out HQC.out (rcells_one _) (by unfold maxLen; omega) (by omega) (by simp; omega) ?_
                   intro V5 w5 hq hg ho
                   rw [Nat.zero_add, List.nil_append] at hq
                   obtain ⟨A5, c5, rfl, _⟩ := row2_sl hq
                   have HR6 := Lib.hid (show (w5.setCell ⟨g, 1, none⟩ (.slice A5 (m - 1) c5)).ownsRow w.heap.size 3 1 (.slice A3 c.length c3) c.length (ivs c) from row_keep HR.out (fun j hj => by
                     obtain ⟨p1, p2, p3⟩ := HAP.out j hj
                     have hjl := (HR.out.lt j hj).2
                     refine (Below.heap_setCell w5 ⟨g, 1, none⟩ _ j p1).trans ((hg.block j (by simp; omega) (fun e => absurd (show w4.heap.size = j from Option.some.inj e.symm) (by omega))).trans ((Below.heap_alloc w4 _ j (by omega)).trans (HD2.out.block j hjl p1 (fun e => p2 (by rw [← HNH.out] at e; exact e)) (fun e => p3 (by rw [← HM.out] at e; exact e)))))))
                   have HV5 := Lib.hid hq
                   have HG5 := Lib.hid hg
                   have HO5 := Lib.hid ho
                   have hb5 : Blk w5 g 29 #[.slice (some ⟨n1, 0, none⟩) (nh + 1) k1, .slice (some ⟨gq, 0, none⟩) m cap] := (hg.block g (by simp; omega) (fun e => absurd (show w4.heap.size = g from Option.some.inj e.symm) (by omega))).trans (HD1.out.kept ((Below.refl w4.heap.size w4).alloc (Nat.le_refl _) (.cells #[] 48))).box
                   have hf5 := hb5.frozen 1
                   have hc5 := hb5.cell 1
                   have hx5 : Blk w5 wr.heap.size 48 #[.int .i64 y, .bool false] := (hg.block wr.heap.size (by have h4 := HX4.out.lt; simp; omega) (fun e => absurd (show w4.heap.size = wr.heap.size from Option.some.inj e.symm) (Nat.ne_of_gt HX4.out.lt))).trans ((Below.heap_alloc w4 _ wr.heap.size HX4.out.lt).trans HX4.out)
                   have hx50 := (show Blk (w5.setCell ⟨g, 1, none⟩ (.slice A5 (m - 1) c5)) wr.heap.size 48 #[.int .i64 y, .bool false] from (Below.heap_setCell w5 ⟨g, 1, none⟩ _ wr.heap.size (fun e => hgx e.symm)).trans hx5).cell 0
                   have HB5 := Lib.hid hb5
                   clear hq hg ho hb5 hx5)
                | (at_builtin
                   refine wpList_append_lies _ rfl (.tmp 64) (.tmp 67) 34 rfl w.heap.size 3 i0 _ 1 8 Try.underlying34 hi hz0 hz1 hz2 rfl (by decide) (.slice A3 c.length c3) c.length (ivs c) rfl (row_alloc HR6.out _) ⟨w5.heap.size, 0, none⟩ 1 1 [.int .i64 y] rfl rfl (World.news_of_block (cs := #[.int .i64 y]) (t := 3) (fr := (0, 0)) (Blk.newEq 3 #[.int .i64 y] (set_size _ _ _))) (by simp [Value.oneCell']) (by decide) (by unfold maxLen; omega) (by omega) ?_ _ rfl ?_
                   focus (have h1 := HK.out.size; have h2 := HG5.out.size; simp [World.setCell] at h2 ⊢; omega)
                   intro n7 k7 w7 hw hg hat hlt
                   have HW7 := Lib.hid hw
                   have HG7 := Lib.hid hg
                   have HAT7 := Lib.hid hat
                   clear hw hg hat hlt)
                | fail)
              have hq2 : Q2.length = m - 1 := by rw [← HM.out]; rfl
              have HQ6 := Lib.hid (queue_done HD1.out (by omega) HG5.out HV5.out hq2 HO5.out)
              have HKN := Lib.hid (show Kr w wr g Vi Vq (.slice (some ⟨gi, 0, none⟩) nh ci) (.slice (some ⟨gq, 0, none⟩) m cap) from by have := HK.out; rw [HNH.out] at this; simpa only [HM.out] using this)
              have HAPN := Lib.hid (show ∀ j, (Value.slice A3 c.length c3).ownBlock = some j → j ≠ g ∧ (Value.slice (some ⟨gi, 0, none⟩) nh ci).ownBlock ≠ some j ∧ (Value.slice (some ⟨gq, 0, none⟩) m cap).ownBlock ≠ some j from by have := HAP.out; rw [HNH.out] at this; simpa only [HM.out] using this)
              have HZ := Lib.hid (mv_done (y := y) HR.out HKN.out HAPN.out HQ6.out.1 (HD2.out.trans HQ6.out.2) HG7.out HW7.out HAT7.out)
              have hcm : c.length + m ≤ 1000 := by rw [← HM.out]; exact hcq
              have hhm : H1.length + m ≤ 1000 := by rw [← HM.out]; exact hhq
              go_roundw
              case rel =>
                obtain ⟨z1, z2, z3, z4⟩ := HZ.out
                refine ⟨_, _, Q2, H1 ++ [(y, v)], c ++ [y], z1, ?_, ?_, E2.out.trans (HGO.out HMB.out).2.1, E3.out.trans (HGO.out HMB.out).2.2, ?_, ?_, alone_in_mv HA1.out HMB.out, z3, ?_⟩
                · exact z2
                · rw [E1.out, (HGO.out HMB.out).1, List.append_assoc]; rfl
                · rw [List.length_append, hq2]; simp only [List.length_cons, List.length_nil]; omega
                · rw [List.length_append, hq2]; simp only [List.length_cons, List.length_nil]; omega
                · exact z4
              case measure =>
                rw [qlen_of HZ.out.1, qlen_of HLV.out]; omega)
end
end Go.Proofs.Ytkhlimlcnlalgaa
