/- The lock: Leave. -/
import Derived.Test.YtkhlimlcnlalgaaKi
namespace Go.Proofs.Ytkhlimlcnlalgaa
open Go.RowKit Go.Maps
set_option linter.unusedVariables false
set_option linter.unusedSimpArgs false
set_option maxRecDepth 100000
theorem qpl_lt {x : Int} : ∀ {Q : List Pq}, qhas x Q = true → qpl x Q < Q.length
  | [], h => by cases h
  | p :: Q, h => by
    unfold qpl
    split
    · simp
    · rename_i e
      have : qhas x Q = true := by
        unfold qhas at h ⊢
        rw [List.any_cons] at h
        have e2 : (p.1 == x) = false := by simpa using e
        rw [e2] at h
        exact h
      have := qpl_lt this
      simp; omega
def delH (H : List Pq) (x : Int) : List Pq := H.filter fun p => p.1 != x
def leaveQ (Q : List Pq) (x : Int) : List Pq := Q.eraseIdx (qpl x Q)
theorem lkh_del (x : Int) (H : List Pq) : lkh x (delH H x) = none := by
  cases h : lkh x (delH H x) with
  | none => rfl
  | some v =>
    have := lkh_mem h
    have := (List.mem_filter.1 this).2
    simp at this
theorem lkh_del_ne {x y : Int} (hne : y ≠ x) : ∀ H : List Pq, lkh y (delH H x) = lkh y H
  | [] => rfl
  | p :: H => by
    have ih := lkh_del_ne hne H
    unfold delH at *
    rw [List.filter_cons]
    by_cases e : p.1 = x
    · rw [if_neg (by simp [e]), ih]
      show _ = if p.1 = y then some p.2 else lkh y H
      rw [if_neg (fun h => hne (h.symm.trans e))]
    · rw [if_pos (by simpa using e)]
      show (if p.1 = y then some p.2 else lkh y _) = if p.1 = y then some p.2 else lkh y H
      rw [ih]
theorem delH_len {x : Int} : ∀ {H : List Pq}, (keysOf H).Nodup → (lkh x H).isSome = true → (delH H x).length + 1 = H.length
  | [], _, h => by cases h
  | p :: H, hn, h => by
    unfold keysOf at hn
    rw [List.map_cons, List.nodup_cons] at hn
    unfold delH
    rw [List.filter_cons]
    by_cases e : p.1 = x
    · rw [if_neg (by simp [e])]
      have : H.filter (fun p => p.1 != x) = H := List.filter_eq_self.2 (fun s hs => by
        have : s.1 ≠ x := fun e2 => hn.1 (List.mem_map.2 ⟨s, hs, e2.trans e.symm⟩)
        simpa using this)
      rw [this]; rfl
    · rw [if_pos (by simpa using e)]
      have h' : (lkh x H).isSome = true := by
        unfold lkh at h
        rwa [if_neg e] at h
      have := delH_len hn.2 h'
      unfold delH at this
      simp only [List.length_cons]
      omega
section
variable {w w' w2 W : World} {R b B n : Nat} {V V' V2 : Value} {D D' D2 : VD} {Q Q' H H' : List Pq}
theorem cut_done (h : Lb w R b B n V D Q H) {k : Nat} (hk : k < Q.length) (hbx : Blk W R 44 #[V2, .map (some b), .bool (wrB H)]) (hm : W.heap[b]? = w.heap[b]?) (hq : Qr W B V2 (Q.eraseIdx k)) (hown : V2.ownBlock = V.ownBlock) : Lb W R b B n V2 D (Q.eraseIdx k) H := by
  have hsub : (Q.eraseIdx k).Sublist Q := List.eraseIdx_sublist _ _
  refine ⟨hbx, h.m.off hm, h.d, h.sz, hq, ⟨h.ne.1, hown ▸ h.ne.2.1, hown ▸ h.ne.2.2⟩, ?_, fun p hp => h.wfs p (((List.Sublist.refl H).append hsub).subset hp), h.alone, ?_, h.ge⟩
  · exact ((List.Sublist.refl (keysOf H)).append (hsub.map Prod.fst)).nodup h.one
  · have := h.len
    have := hsub.length_le
    omega
theorem drop_done (h : Lb w R b B n V D Q H) {x : Int} (hx : (lkh x H).isSome = true) (hbx : Blk W R 44 #[V, .map (some b), .bool false]) (hm : Vm W b (D.del (.int .i64 x))) (hq : ∀ j, V.ownBlock = some j → W.heap[j]? = w.heap[j]?) : Lb W R b B n V (D.del (.int .i64 x)) Q (delH H x) := by
  have i1 := h.m.vd
  have hsub : (delH H x).Sublist H := List.filter_sublist
  have hlen := delH_len h.oneH hx
  have hwr : wrB (delH H x) = false := by
    by_cases hw : wrB H = true
    · have := h.alone hw
      have e : delH H x = [] := List.length_eq_zero_iff.1 (by omega)
      rw [e]; rfl
    · have hw : wrB H = false := by simpa using hw
      unfold wrB at *
      rw [List.any_eq_false] at *
      exact fun p hp => hw p (hsub.subset hp)
  refine ⟨hwr ▸ hbx, hm, fun y => ?_, ?_, h.q.keep hq, h.ne, ?_, fun p hp => h.wfs p ((hsub.append (List.Sublist.refl Q)).subset hp), fun hw => (by rw [hwr] at hw; cases hw), ?_, h.ge⟩
  · by_cases e : y = x
    · subst e
      rw [vl_del, lkh_del]; rfl
    · rw [vl_del_ne e, lkh_del_ne e, h.d]
  · have := i1.size_del x
    have e : (vl D x).isSome = true := by rw [h.d, Option.isSome_map]; exact hx
    rw [e, h.sz] at this
    simp at this
    omega
  · exact ((hsub.map Prod.fst).append (List.Sublist.refl (keysOf Q))).nodup h.one
  · have := h.len
    omega
theorem leave_none (h : Lb w R b B n V D Q H) (hn : n ≤ 1000) (x : Int) (hx : wf x) (hs : stL Q H x = 0) : Calls Try.prog 12 #[.pointer (some ⟨R, 0, none⟩), .int .i64 x] w fun e w' => e = .returned (.slice none 0 0) ∧ Below w.heap.size w w' := by
  have HS := Lib.hid (state_any h hn x hx)
  rw [hs] at HS
  clear h hs
  go_enter Try.func12, Try.ntmps12
  go_wp2_with (first | (go_at_call 14; (with_reducible refine (HS.out).mono ?_); rintro _ w5 ⟨rfl, h1⟩; have HB := Lib.hid h1; clear h1) | fail)
  go_ret
  exact ⟨rfl, HB.out⟩
set_option maxHeartbeats 4000000 in
theorem leave_wait (h : Lb w R b B n V D Q H) (hn : n ≤ 1000) (x : Int) (hx : wf x) (hlk : lkh x H = none) (hqs : qhas x Q = true) : Calls Try.prog 12 #[.pointer (some ⟨R, 0, none⟩), .int .i64 x] w fun e w' => ∃ U V' D', e = .returned U ∧ Lb w' R b B n V' D' (mvQ (leaveQ Q x) H) (mvH (leaveQ Q x) H) ∧ w'.ownsRow w.heap.size 3 1 U (mvC (leaveQ Q x) H).length (ivs (mvC (leaveQ Q x) H)) ∧ Kl w w' R b V V' := by
  have HH := Lib.hid h
  have hst : stL Q H x = 1 := by unfold stL; rw [hlk, if_pos hqs]
  have HS := Lib.hid (state_any h hn x hx)
  rw [hst] at HS
  have hk := qpl_lt hqs
  obtain ⟨k, hkE⟩ : ∃ k, qpl x Q = k := ⟨_, rfl⟩
  rw [hkE] at hk
  have HLQ := Lib.hid (show leaveQ Q x = Q.eraseIdx k from by unfold leaveQ; rw [hkE])
  have HIX := Lib.hid (show qidx x Q = (k : Int) from by unfold qidx; rw [if_pos hqs, hkE])
  have hRl := h.lt (.inl rfl : Mine R b V R)
  have hbl := h.lt (.inr (.inl rfl) : Mine R b V b)
  have hql : Q.length ≤ 1000 := by have := h.len; omega
  have hkI : (k : Int) < 1000 := by omega
  have hk0 : (0 : Int) ≤ (k : Int) := by omega
  obtain ⟨A, cap, hV, _⟩ := h.q.sl
  have HVE := Lib.hid hV
  clear h hlk hqs hst hkE hV hx
  go_enter Try.func12, Try.ntmps12
  go_wp2_with fail
  refine (HS.out).mono ?_
  rintro _ w1 ⟨rfl, h1⟩
  have L1 := Lib.hid (HH.out.kept h1)
  have HB1 := Lib.hid h1
  clear h1
  have HPL := Lib.hid (place_any L1.out.box L1.out.q (by omega) x)
  rw [HIX.out] at HPL
  go_wp2_with fail
  refine (HPL.out).mono ?_
  rintro _ w2 ⟨rfl, h1⟩
  have L2 := Lib.hid (L1.out.kept h1)
  have HB2 := Lib.hid (HB1.out.trans (h1.mono HB1.out.size))
  have c0 := L2.out.box.cell 0
  rw [HVE.out] at c0
  clear h1 HPL
  have HDE := Lib.hid (del_any L2.out.q hql hk)
  rw [HVE.out] at HDE
  go_wp2_with fail
  refine (HDE.out).mono ?_
  rintro _ w3 ⟨V3, rfl, h1, h2, h3, h4⟩
  obtain ⟨A3, c3, hV3, _⟩ := h1.sl
  rw [List.length_eraseIdx, if_pos hk] at hV3
  subst hV3
  have hsz2 := HB2.out.size
  have hb3 : Blk w3 R 44 #[.slice A Q.length cap, .map (some b), .bool (wrB H)] := (h2.block R (by omega) (fun e => HH.out.ne.2.1 (by rw [HVE.out, ← e]))).trans (HVE.out ▸ L2.out.box)
  have HB3 := Lib.hid hb3
  have f3 := hb3.frozen 0
  have r3 := hb3.cell 0
  have HQ3 := Lib.hid h1
  have HG3 := Lib.hid h2
  have HO3 := Lib.hid h3
  have HZ3 := Lib.hid h4
  clear h1 h2 h3 h4 hb3 c0
  have hset : ∀ j, j ≠ R → (w3.setCell ⟨R, 0, none⟩ (.slice A3 (Q.length - 1) c3)).heap[j]? = w3.heap[j]? := fun j hj => Below.heap_setCell w3 ⟨R, 0, none⟩ _ j hj
  have hown : (Value.slice A3 (Q.length - 1) c3).ownBlock = V.ownBlock := by rw [HVE.out]; exact HO3.out
  have L4 := Lib.hid (cut_done (W := w3.setCell ⟨R, 0, none⟩ (.slice A3 (Q.length - 1) c3)) HH.out hk (HB3.out.set_ 0 _) ((hset b (fun e => HH.out.ne.1 e.symm)).trans ((HG3.out.block b (by omega) (fun e => HH.out.ne.2.2 (by rw [HVE.out, ← e]))).trans (HB2.out.block b hbl))) (HQ3.out.keep (fun j hj => hset j (fun e => HH.out.ne.2.1 (by rw [← hown, hj, e])))) hown)
  have HK4 := Lib.hid (show Kl w (w3.setCell ⟨R, 0, none⟩ (.slice A3 (Q.length - 1) c3)) R b V (.slice A3 (Q.length - 1) c3) from
    ⟨HG3.out.os.trans HB2.out.os, HG3.out.tape.trans HB2.out.tape, HG3.out.output.trans HB2.out.output, by have := HZ3.out; simp [World.setCell]; omega, fun j hj hm => (hset j (fun e => hm (.inl e))).trans ((HG3.out.block j (by omega) (fun e => hm (.inr (.inr (by rw [HVE.out, ← e]))))).trans (HB2.out.block j hj)), fun j hj => .inl (by rw [← hown]; exact hj)⟩)
  have hsz4 : w.heap.size ≤ (w3.setCell ⟨R, 0, none⟩ (.slice A3 (Q.length - 1) c3)).heap.size := HK4.out.size
  clear hset
  go_wp2_with fail
  refine (move_any L4.out hn).mono ?_
  rintro _ w5 ⟨U5, V5, D5, rfl, h1, h2, h3⟩
  have L5 := Lib.hid h1
  have HU5 := Lib.hid (ownsRow_base_a h2 hsz4)
  have HK5 := Lib.hid (HK4.out.trans h3 hRl hbl)
  clear h1 h2 h3
  go_wp2
  go_ret
  rw [HLQ.out]
  exact ⟨U5, V5, D5, rfl, L5.out, HU5.out, HK5.out⟩
set_option maxHeartbeats 4000000 in
theorem leave_hold (h : Lb w R b B n V D Q H) (hn : n ≤ 1000) (x : Int) (hx : wf x) (hlk : (lkh x H).isSome = true) : Calls Try.prog 12 #[.pointer (some ⟨R, 0, none⟩), .int .i64 x] w fun e w' => ∃ U V' D', e = .returned U ∧ Lb w' R b B n V' D' (mvQ Q (delH H x)) (mvH Q (delH H x)) ∧ w'.ownsRow w.heap.size 3 1 U (mvC Q (delH H x)).length (ivs (mvC Q (delH H x))) ∧ Kl w w' R b V V' := by
  have HH := Lib.hid h
  have HLK := Lib.hid hlk
  have HX := Lib.hid hx
  obtain ⟨v, hv⟩ := Option.isSome_iff_exists.1 hlk
  have hst : stL Q H x = v := by unfold stL; rw [hv]
  have hv23 := h.lkv hv
  have HS := Lib.hid (state_any h hn x hx)
  rw [hst] at HS
  have b0 : (v == 0) = false := by simp; omega
  have b1 : (v == 1) = false := by simp; omega
  have hRl := h.lt (.inl rfl : Mine R b V R)
  have hbl := h.lt (.inr (.inl rfl) : Mine R b V b)
  obtain ⟨A, cap, hV, _⟩ := h.q.sl
  have HVE := Lib.hid hV
  clear h hlk hst hv hv23 hV hx
  go_enter Try.func12, Try.ntmps12
  go_wp2_with fail
  refine (HS.out).mono ?_
  rintro _ w1 ⟨rfl, h1⟩
  have L1 := Lib.hid (HH.out.kept h1)
  have HB1 := Lib.hid h1
  clear h1
  obtain ⟨w2, hdel, hm2, hg2, hz2⟩ := L1.out.m.drop 0 Try.underlying41 HX.out
  have hsz1 := HB1.out.size
  have c1 := L1.out.box.cell 1
  have hb2 : Blk w2 R 44 #[V, .map (some b), .bool (wrB H)] := (hg2.block R (by omega) (fun e => HH.out.ne.1 (Option.some.inj e))).trans L1.out.box
  have f2 := hb2.frozen 2
  have r2 := hb2.cell 2
  have HB2 := Lib.hid hb2
  have HM2 := Lib.hid hm2
  have HG2 := Lib.hid hg2
  have HZ2 := Lib.hid hz2
  clear hb2 hm2 hg2 hz2
  have hset : ∀ j, j ≠ R → (w2.setCell ⟨R, 2, none⟩ (.bool false)).heap[j]? = w2.heap[j]? := fun j hj => Below.heap_setCell w2 ⟨R, 2, none⟩ _ j hj
  have L4 := Lib.hid (drop_done (W := w2.setCell ⟨R, 2, none⟩ (.bool false)) HH.out HLK.out (HB2.out.set_ 2 _) (HM2.out.off (hset b (fun e => HH.out.ne.1 e.symm))) (fun j hj => (hset j (fun e => HH.out.ne.2.1 (e ▸ hj))).trans ((HG2.out.block j (by have := (HH.out.q.lt hj).2; omega) (fun e => HH.out.ne.2.2 (Option.some.inj e ▸ hj))).trans (HB1.out.block j (HH.out.q.lt hj).2))))
  have HK4 := Lib.hid (show Kl w (w2.setCell ⟨R, 2, none⟩ (.bool false)) R b V V from
    ⟨HG2.out.os.trans HB1.out.os, HG2.out.tape.trans HB1.out.tape, HG2.out.output.trans HB1.out.output, by have := HZ2.out; simp [World.setCell]; omega, fun j hj hm => (hset j (fun e => hm (.inl e))).trans ((HG2.out.block j (by omega) (fun e => hm (.inr (.inl (Option.some.inj e))))).trans (HB1.out.block j hj)), fun j hj => .inl hj⟩)
  have hsz4 : w.heap.size ≤ (w2.setCell ⟨R, 2, none⟩ (.bool false)).heap.size := HK4.out.size
  clear hset
  go_wp2_with fail
  refine (move_any L4.out hn).mono ?_
  rintro _ w5 ⟨U5, V5, D5, rfl, h1, h2, h3⟩
  have L5 := Lib.hid h1
  have HU5 := Lib.hid (ownsRow_base_a h2 hsz4)
  have HK5 := Lib.hid (HK4.out.trans h3 hRl hbl)
  clear h1 h2 h3
  go_wp2
  go_ret
  exact ⟨U5, V5, D5, rfl, L5.out, HU5.out, HK5.out⟩
end
end Go.Proofs.Ytkhlimlcnlalgaa
