/- The reference's copy: put, walked. -/
import Derived.Test.YtpmgabeefppajaaPa
import Derived.Test.YtpmgabeefppajaaRd
import Derived.Laws.Cover1
namespace Go.Proofs.Ytpmgabeefppajaa
open Go.RowKit
open Go.Lib
set_option linter.unusedVariables false
set_option linter.unusedSimpArgs false
set_option maxRecDepth 100000
/-- While put goes: what has been laid, the item's box, the list. -/
structure Pt (w wr : World) (X : Nat) (A : Option Addr) (len cap b off : Nat) (L : LK) (t : It) (v : Value) (M : LK) : Prop where
  own : wr.ownsRow (X + 1) 41 4 v M.length (itsC (itsK M))
  box : Blk wr X 41 #[.string t.u, .int .i64 t.v, .bool t.x, .string t.c]
  its : Its wr A len cap b off (itsK L)
  bel : Below X w wr
  hX : X = w.heap.size
  hb : 0 < len → b < X
section
variable {w wr w' : World} {X : Nat} {A : Option Addr} {len cap b off : Nat} {L : LK} {t : It} {v : Value} {M : LK}
theorem Pt.drewN (h : Pt w wr X A len cap b off L t v M) (n : Nat) : Pt w (wr.drewN n) X A len cap b off L t v M :=
  ⟨own_below h.own (below_drewN (Below.refl _ _) n), h.box.drewN n, h.its.below (below_drewN (Below.refl wr.heap.size wr) n) (fun hl => (h.its.addr hl).2), below_drewN h.bel n, h.hX, h.hb⟩
theorem Pt.push (h : Pt w wr X A len cap b off L t v M) {u : ByteArray} {x : Int} {c : ByteArray} {v' : Value} {w5 : World} (ho : w5.ownsRow (X + 1) 41 4 v' (M.length + 1) (itsC (itsK M) ++ [.string u, .int .i64 x, .bool false, .string c])) (hg : (wr.alloc (.cells #[.string u, .int .i64 x, .bool false, .string c] 41)).grownBy w5 v.ownBlock) (hne : v.ownBlock ≠ some X) : Pt w w5 X A len cap b off L t v' (M ++ [(u, (x, c))]) := by
  have hXlt := h.box.lt
  have hb5 : Below X wr w5 := ((Below.refl X wr).alloc (by omega) _).grown hg (by simp; omega) (fun j e => Nat.le_of_succ_le (h.own.lt j e).1)
  refine ⟨?_, (h.box.alloc _).grown hg (fun e => hne e.symm), h.its.below hb5 h.hb, h.bel.trans hb5, h.hX, h.hb⟩
  rw [itsK_append, itsC_append, List.length_append]
  exact ho
end
theorem own_mono {wr : World} {X B : Nat} {v : Value} {k : Nat} {xs : List Value} (e : X = B) (h : wr.ownsRow (X + 1) 41 4 v k xs) : wr.ownsRow B 41 4 v k xs := by
  subst e
  obtain ⟨h0, h3 | ⟨b, cap, cur, e1, e2, e3⟩⟩ := h
  · exact ⟨h0, .inl h3⟩
  · exact ⟨h0, .inr ⟨b, cap, cur, e1, by omega, e3⟩⟩
theorem own_ne2 {w wr : World} {X : Nat} {A : Option Addr} {len cap b off : Nat} {L : LK} {t : It} {v : Value} {M : LK} (h : Pt w wr X A len cap b off L t v M) : v.ownBlock ≠ some X := by
  intro e
  have := (h.own.lt X e).1
  omega
set_option maxHeartbeats 16000000 in
theorem put_any {w : World} {A : Option Addr} {len cap b off : Nat} {L : LK} (h : Its w A len cap b off (itsK L)) (hn : len ≤ 30000) (hs : Srt L) (t : It) : Calls Try.prog 32 #[.slice A len cap, .agg #[.string t.u, .int .i64 t.v, .bool t.x, .string t.c]] w fun r w' => ∃ U, r = .returned U ∧ w'.ownsRow w.heap.size 41 4 U (tk1 L t).length (itsC (itsK (tk1 L t))) ∧ Below w.heap.size w w' := by
  obtain ⟨i0, hi, hz0, hz1, hz2⟩ := info_parts info41
  have hlen : L.length = len := by rw [← itsK_len]; exact h.hlen
  have hlc := h.le
  have hnI : (len : Int) ≤ 30000 := by omega
  have HS := Lib.hid hs
  obtain ⟨X, hX⟩ : ∃ X, w.heap.size = X := ⟨_, rfl⟩
  obtain ⟨tu, tv, tx, tc⟩ := t
  simp only
  obtain ⟨W, hW⟩ : ∃ W, w.alloc (.cells #[.string tu, .int .i64 tv, .bool tx, .string tc] 41) = W := ⟨_, rfl⟩
  have HBX := Lib.hid (show Blk W X 41 #[.string tu, .int .i64 tv, .bool tx, .string tc] from hX ▸ hW ▸ Blk.new w 41 _)
  have HBW := Lib.hid (show Below X w W from hX ▸ hW ▸ (Below.refl _ w).alloc (Nat.le_refl _) _)
  have HXs := Lib.hid hX.symm
  have HI := Lib.hid h
  have HP0 := Lib.hid (show Pt w W X A len cap b off L ⟨tu, tv, tx, tc⟩ (.slice none 0 0) [] from ⟨⟨rfl, .inl ⟨rfl, rfl⟩⟩, HBX.out, h.below HBW.out (fun hl => hX ▸ (h.addr hl).2), HBW.out, hX.symm, fun hl => hX ▸ (h.addr hl).2⟩)
  clear h hs
  go_enter Try.func32, Try.ntmps32
  go_wp2
  clear hW hX
  go_loopw [5, 6, 7] (fun oo dd i wr => ∃ (q : Nat) (d : Bool) (o : Value), q ≤ len ∧ i = .int .i64 (q : Int) ∧ dd = .bool d ∧ oo = o ∧ Pt w wr X A len cap b off L ⟨tu, tv, tx, tc⟩ o (if d = true then tk1 (L.take q) ⟨tu, tv, tx, tc⟩ else L.take q) ∧ (d = false → ∀ a ∈ L.take q, klt a.1 tu = true) ∧ (d = true → ∀ j p, q ≤ j → L[j]? = some p → klt tu p.1 = true)) (fun _ _ i _ => len - (intOf i).toNat)
  case atStart => exact ⟨0, false, _, Nat.zero_le _, rfl, rfl, rfl, HP0.out, fun _ a ha => by simp at ha, fun h => by cases h⟩
  case round =>
    obtain ⟨q, d, o, hq, rfl, rfl, ho, hP, hd0, hd1⟩ := hrel
    subst ho
    have HP := Lib.hid hP
    have HD0 := Lib.hid hd0
    have HD1 := Lib.hid hd1
    clear hP hd0 hd1
    by_cases hql : q < len
    · obtain ⟨p, hp⟩ : ∃ p, L[q]? = some p := ⟨L[q]'(by omega), List.getElem?_eq_getElem _⟩
      obtain ⟨rfl, hbl⟩ := HP.out.its.addr (by omega)
      have HC := Lib.hid (fun (wz : World) (v : Value) (M : LK) (hz : Pt w wz X (some ⟨b, off, none⟩) len cap b off L ⟨tu, tv, tx, tc⟩ v M) => hz.its.cell q _ (itsK_get hp))
      have HUP := Lib.hid (srt_upto HS.out hp)
      have HTK := Lib.hid (take_snoc' hp)
      have HDP := Lib.hid (fun h => HD1.out h q p (Nat.le_refl _) hp)
      have HGT := Lib.hid (fun (j : Nat) (r : KP) (hj : q + 1 ≤ j) (hr : L[j]? = some r) => (srt_upto HS.out hr) p (by
        have hjl := (List.getElem?_eq_some_iff.1 hr).1
        rw [List.mem_iff_getElem]
        refine ⟨q, by rw [List.length_take]; omega, ?_⟩
        rw [List.getElem_take]
        exact (List.getElem?_eq_some_iff.1 hp).2))
      obtain ⟨pu, pv, pc⟩ := p
      have hqI : (q : Int) < (len : Int) := by omega
      clear hp hbl
      simp only at HC HUP HDP HGT
      have HSZ := Lib.hid (show (L.take q).length ≤ 30000 by rw [List.length_take]; omega)
      have HX0 := Lib.hid (show X ≤ wr.heap.size from Nat.le_of_lt HP.out.box.lt)
      cases d with
      | true =>
        have hPt : Pt w wr X (some ⟨b, off, none⟩) len cap b off L ⟨tu, tv, tx, tc⟩ _ (tk1 (L.take q) ⟨tu, tv, tx, tc⟩) := HP.out
        have HM := Lib.hid (show tk1 (L.take (q + 1)) ⟨tu, tv, tx, tc⟩ = tk1 (L.take q) ⟨tu, tv, tx, tc⟩ ++ [(pu, (pv, pc))] by rw [HTK.out]; exact tk1_far (HDP.out rfl))
        have HLM := Lib.hid (show (tk1 (L.take q) ⟨tu, tv, tx, tc⟩).length ≤ 40000 by
          have := tk1_len (L := L.take q) (HS.out.sublist (List.take_sublist _ _)) ⟨tu, tv, tx, tc⟩
          have := HSZ.out
          omega)
        obtain ⟨M, hMM⟩ : ∃ M, tk1 (L.take q) ⟨tu, tv, tx, tc⟩ = M := ⟨_, rfl⟩
        rw [hMM] at hPt HM HLM
        have HPM := Lib.hid hPt
        clear hPt hMM HP
        go_wp2_with fail
        go_quiet (fail)
        obtain ⟨w6, hw6⟩ : ∃ w6, wr.drewN nq = w6 := ⟨_, rfl⟩
        have HPM6 := Lib.hid (show Pt w w6 X (some ⟨b, off, none⟩) len cap b off L ⟨tu, tv, tx, tc⟩ _ _ from hw6 ▸ HPM.out.drewN nq)
        rw [hw6]
        clear hw6
        obtain ⟨c0, c1, c2, c3⟩ := HC.out w6 _ _ HPM6.out
        try simp only at c0 c1 c2 c3
        have HNE := Lib.hid (own_ne2 HPM6.out)
        go_wp2_with (first | (at_builtin; refine wpList_append_own _ rfl _ _ 28 rfl (X + 1) 41 i0 _ 4 48 Try.underlying28 hi hz0 hz1 hz2 rfl (by decide) _ M.length (itsC (itsK M)) rfl (HPM6.out.own.alloc _) ⟨w6.heap.size, 0, none⟩ 1 1 [.string pu, .int .i64 pv, .bool false, .string pc] rfl rfl (cell_four_new _ _ _ _ _ _) (by simp [Value.oneCell']) (by have := HLM.out; unfold maxLen; omega) (by have := HLM.out; omega) (by have := HPM6.out.box.lt; simp; omega) ?_; intro vv w7 hown' hgrow _; have HP7 := Lib.hid (HPM6.out.push hown' hgrow HNE.out); clear hown' hgrow) | fail)
        go_roundw
        case rel => exact ⟨q + 1, true, _, by omega, by go_num, rfl, rfl, by rw [if_pos rfl, HM.out]; exact HP7.out, fun h => (by cases h), fun _ j r hj hr => HD1.out (by simp) j r (by omega) hr⟩
        case measure => simp [intOf]; omega
      | false =>
        have HPM := Lib.hid (show Pt w wr X (some ⟨b, off, none⟩) len cap b off L ⟨tu, tv, tx, tc⟩ _ (L.take q) from HP.out)
        clear HP HDP
        obtain ⟨c0, c1, c2, c3⟩ := HC.out wr _ _ HPM.out
        try simp only at c0 c1 c2 c3
        have x0 := HPM.out.box.cell 0
        by_cases hlt : Op.bytesLess pu.toList tu.toList = true
        · have HKL := Lib.hid (show klt pu tu = true from hlt)
          go_wp2_with fail
          go_quiet (fail)
          obtain ⟨w6, hw6⟩ : ∃ w6, wr.drewN nq = w6 := ⟨_, rfl⟩
          have HPM6 := Lib.hid (show Pt w w6 X (some ⟨b, off, none⟩) len cap b off L ⟨tu, tv, tx, tc⟩ _ _ from hw6 ▸ HPM.out.drewN nq)
          rw [hw6]
          clear hw6
          clear c0 c1 c2 c3 x0
          obtain ⟨c0, c1, c2, c3⟩ := HC.out w6 _ _ HPM6.out
          try simp only at c0 c1 c2 c3
          have HNE := Lib.hid (own_ne2 HPM6.out)
          have HLM := Lib.hid (show (L.take q).length ≤ 40000 by have := HSZ.out; omega)
          go_wp2_with (first | (at_builtin; refine wpList_append_own _ rfl _ _ 28 rfl (X + 1) 41 i0 _ 4 48 Try.underlying28 hi hz0 hz1 hz2 rfl (by decide) _ (L.take q).length (itsC (itsK (L.take q))) rfl (HPM6.out.own.alloc _) ⟨w6.heap.size, 0, none⟩ 1 1 [.string pu, .int .i64 pv, .bool false, .string pc] rfl rfl (cell_four_new _ _ _ _ _ _) (by simp [Value.oneCell']) (by have := HLM.out; unfold maxLen; omega) (by have := HLM.out; omega) (by have := HPM6.out.box.lt; simp; omega) ?_; intro vv w7 hown' hgrow _; have HP7 := Lib.hid (HPM6.out.push hown' hgrow HNE.out); clear hown' hgrow) | fail)
          go_roundw
          case rel => exact ⟨q + 1, false, _, by omega, by go_num, rfl, rfl, by rw [if_neg Bool.false_ne_true, HTK.out]; exact HP7.out, fun _ a ha => by
            rw [HTK.out] at ha
            rcases List.mem_append.1 ha with ha | ha
            · exact HD0.out (by simp) a ha
            · simp only [List.mem_singleton] at ha
              subst ha
              exact HKL.out, fun h => (by cases h)⟩
          case measure => simp [intOf]; omega
        · have hlt2 : Op.bytesLess pu.toList tu.toList = false := by simpa using hlt
          clear hlt
          have HKL := Lib.hid (show klt pu tu = false from hlt2)
          have HAT := Lib.hid (tk1_at (t := ⟨tu, tv, tx, tc⟩) (p := (pu, (pv, pc))) (HD0.out rfl) HKL.out)
          rw [← HTK.out] at HAT
          have HDN := Lib.hid (fun (j : Nat) (r : KP) (hj : q + 1 ≤ j) (hr : L[j]? = some r) => (show klt tu r.1 = true by
            have h1 := HGT.out j r hj hr
            by_cases e : pu = tu
            · rw [← e]; exact h1
            · rcases klt_total e with h2 | h2
              · rw [HKL.out] at h2; cases h2
              · exact klt_trans h2 h1))
          have HLM := Lib.hid (show (L.take q).length ≤ 40000 by have := HSZ.out; omega)
          go_wp2_with fail
          go_quiet (fail)
          obtain ⟨w6, hw6⟩ : ∃ w6, wr.drewN nq = w6 := ⟨_, rfl⟩
          have HPM6 := Lib.hid (show Pt w w6 X (some ⟨b, off, none⟩) len cap b off L ⟨tu, tv, tx, tc⟩ _ _ from hw6 ▸ HPM.out.drewN nq)
          rw [hw6]
          clear hw6
          clear c0 c1 c2 c3 x0
          have HNE := Lib.hid (own_ne2 HPM6.out)
          have x0 := HPM6.out.box.cell 0
          have x1 := HPM6.out.box.cell 1
          have x2 := HPM6.out.box.cell 2
          have x3 := HPM6.out.box.cell 3
          simp only at x0 x1 x2 x3
          by_cases he : pu = tu
          · have he2 : (pu.toList == tu.toList) = true := by rw [he]; simp
            cases tx with
            | true =>
              have HM := Lib.hid (show tk1 (L.take (q + 1)) ⟨tu, tv, true, tc⟩ = L.take q by rw [HAT.out, if_pos rfl, if_pos he]; simp)
              clear he HAT
              obtain ⟨c0, c1, c2, c3⟩ := HC.out w6 _ _ HPM6.out
              try simp only at c0 c1 c2 c3
              go_wp2_with fail
              go_quiet (fail)
              obtain ⟨w8, hw6⟩ : ∃ w8, w6.drewN nq = w8 := ⟨_, rfl⟩
              have HP8 := Lib.hid (HPM6.out.drewN nq)
              rw [hw6] at HP8
              rw [hw6]
              clear hw6
              go_wp2
              go_roundw
              case rel => exact ⟨q + 1, true, _, by omega, by go_num, rfl, rfl, by rw [if_pos rfl, HM.out]; exact HP8.out, fun h => (by cases h), fun _ => HDN.out⟩
              case measure => simp [intOf]; omega
            | false =>
              have HM := Lib.hid (show tk1 (L.take (q + 1)) ⟨tu, tv, false, tc⟩ = L.take q ++ [(tu, (tv, tc))] by rw [HAT.out, if_neg Bool.false_ne_true, if_pos he]; simp)
              clear he HAT
              go_wp2_with (first | (at_builtin; refine wpList_append_own _ rfl _ _ 28 rfl (X + 1) 41 i0 _ 4 48 Try.underlying28 hi hz0 hz1 hz2 rfl (by decide) _ (L.take q).length (itsC (itsK (L.take q))) rfl (HPM6.out.own.alloc _) ⟨w6.heap.size, 0, none⟩ 1 1 [.string tu, .int .i64 tv, .bool false, .string tc] rfl rfl (cell_four_new _ _ _ _ _ _) (by simp [Value.oneCell']) (by have := HLM.out; unfold maxLen; omega) (by have := HLM.out; omega) (by have := HPM6.out.box.lt; simp; omega) ?_; intro vv w7 hown' hgrow _; have HP7 := Lib.hid (HPM6.out.push hown' hgrow HNE.out); clear hown' hgrow) | fail)
              obtain ⟨c0, c1, c2, c3⟩ := HC.out w7 _ _ HP7.out
              try simp only at c0 c1 c2 c3
              have x0 := HP7.out.box.cell 0
              go_quiet (fail)
              obtain ⟨w8, hw6⟩ : ∃ w8, w7.drewN nq = w8 := ⟨_, rfl⟩
              have HP8 := Lib.hid (HP7.out.drewN nq)
              rw [hw6] at HP8
              rw [hw6]
              clear hw6
              go_wp2
              go_roundw
              case rel => exact ⟨q + 1, true, _, by omega, by go_num, rfl, rfl, by rw [if_pos rfl, HM.out]; exact HP8.out, fun h => (by cases h), fun _ => HDN.out⟩
              case measure => simp [intOf]; omega
          · have he2 : (pu.toList == tu.toList) = false := by
              rw [keq]
              exact decide_eq_false he
            cases tx with
            | true =>
              have HM := Lib.hid (show tk1 (L.take (q + 1)) ⟨tu, tv, true, tc⟩ = L.take q ++ [(pu, (pv, pc))] by rw [HAT.out, if_pos rfl, if_neg he]; simp)
              clear he HAT
              obtain ⟨c0, c1, c2, c3⟩ := HC.out w6 _ _ HPM6.out
              try simp only at c0 c1 c2 c3
              go_wp2_with fail
              go_quiet (fail)
              obtain ⟨w8, hw6⟩ : ∃ w8, w6.drewN nq = w8 := ⟨_, rfl⟩
              have HP8 := Lib.hid (HPM6.out.drewN nq)
              rw [hw6] at HP8
              rw [hw6]
              clear hw6
              clear c0 c1 c2 c3 HNE
              obtain ⟨c0, c1, c2, c3⟩ := HC.out w8 _ _ HP8.out
              try simp only at c0 c1 c2 c3
              have HNE := Lib.hid (own_ne2 HP8.out)
              go_wp2_with (first | (at_builtin; refine wpList_append_own _ rfl _ _ 28 rfl (X + 1) 41 i0 _ 4 48 Try.underlying28 hi hz0 hz1 hz2 rfl (by decide) _ (L.take q).length (itsC (itsK (L.take q))) rfl (HP8.out.own.alloc _) ⟨w8.heap.size, 0, none⟩ 1 1 [.string pu, .int .i64 pv, .bool false, .string pc] rfl rfl (cell_four_new _ _ _ _ _ _) (by simp [Value.oneCell']) (by have := HLM.out; unfold maxLen; omega) (by have := HLM.out; omega) (by have := HP8.out.box.lt; simp; omega) ?_; intro vv w9 hown' hgrow _; have HP9 := Lib.hid (HP8.out.push hown' hgrow HNE.out); clear hown' hgrow) | fail)
              go_roundw
              case rel => exact ⟨q + 1, true, _, by omega, by go_num, rfl, rfl, by rw [if_pos rfl, HM.out]; exact HP9.out, fun h => (by cases h), fun _ => HDN.out⟩
              case measure => simp [intOf]; omega
            | false =>
              have HM := Lib.hid (show tk1 (L.take (q + 1)) ⟨tu, tv, false, tc⟩ = (L.take q ++ [(tu, (tv, tc))]) ++ [(pu, (pv, pc))] by rw [HAT.out, if_neg Bool.false_ne_true, if_neg he])
              clear he HAT
              go_wp2_with (first | (at_builtin; refine wpList_append_own _ rfl _ _ 28 rfl (X + 1) 41 i0 _ 4 48 Try.underlying28 hi hz0 hz1 hz2 rfl (by decide) _ (L.take q).length (itsC (itsK (L.take q))) rfl (HPM6.out.own.alloc _) ⟨w6.heap.size, 0, none⟩ 1 1 [.string tu, .int .i64 tv, .bool false, .string tc] rfl rfl (cell_four_new _ _ _ _ _ _) (by simp [Value.oneCell']) (by have := HLM.out; unfold maxLen; omega) (by have := HLM.out; omega) (by have := HPM6.out.box.lt; simp; omega) ?_; intro vv w7 hown' hgrow _; have HP7 := Lib.hid (HPM6.out.push hown' hgrow HNE.out); clear hown' hgrow) | fail)
              obtain ⟨c0, c1, c2, c3⟩ := HC.out w7 _ _ HP7.out
              try simp only at c0 c1 c2 c3
              have x0 := HP7.out.box.cell 0
              go_quiet (fail)
              obtain ⟨w8, hw6⟩ : ∃ w8, w7.drewN nq = w8 := ⟨_, rfl⟩
              have HP8 := Lib.hid (HP7.out.drewN nq)
              rw [hw6] at HP8
              rw [hw6]
              clear hw6
              clear c0 c1 c2 c3 x0 HNE
              obtain ⟨c0, c1, c2, c3⟩ := HC.out w8 _ _ HP8.out
              try simp only at c0 c1 c2 c3
              have HNE := Lib.hid (own_ne2 HP8.out)
              have HLM2 := Lib.hid (show (L.take q ++ [(tu, (tv, tc))]).length ≤ 40001 by have := HLM.out; simp only [List.length_append, List.length_singleton]; omega)
              obtain ⟨M2, hM2⟩ : ∃ M2, L.take q ++ [(tu, (tv, tc))] = M2 := ⟨_, rfl⟩
              rw [hM2] at HP8 HM HLM2
              clear hM2 HLM
              have HLM := HLM2
              go_wp2_with (first | (at_builtin; refine wpList_append_own _ rfl _ _ 28 rfl (X + 1) 41 i0 _ 4 48 Try.underlying28 hi hz0 hz1 hz2 rfl (by decide) _ M2.length (itsC (itsK M2)) rfl (HP8.out.own.alloc _) ⟨w8.heap.size, 0, none⟩ 1 1 [.string pu, .int .i64 pv, .bool false, .string pc] rfl rfl (cell_four_new _ _ _ _ _ _) (by simp [Value.oneCell']) (by have := HLM.out; unfold maxLen; omega) (by have := HLM.out; omega) (by have := HP8.out.box.lt; simp; omega) ?_; intro vv w9 hown' hgrow _; have HP9 := Lib.hid (HP8.out.push hown' hgrow HNE.out); clear hown' hgrow) | fail)
              go_roundw
              case rel => exact ⟨q + 1, true, _, by omega, by go_num, rfl, rfl, by rw [if_pos rfl, HM.out]; exact HP9.out, fun h => (by cases h), fun _ => HDN.out⟩
              case measure => simp [intOf]; omega
    · obtain rfl : q = len := by omega
      have HTF := Lib.hid (show L.take q = L by rw [List.take_of_length_le (by omega)])
      have x0 := HP.out.box.cell 0
      have x1 := HP.out.box.cell 1
      have x2 := HP.out.box.cell 2
      have x3 := HP.out.box.cell 3
      simp only at x0 x1 x2 x3
      cases d with
      | true =>
        have HPM := Lib.hid (show Pt w wr X A q cap b off L ⟨tu, tv, tx, tc⟩ _ (tk1 L ⟨tu, tv, tx, tc⟩) by have := HP.out; rw [if_pos rfl, HTF.out] at this; exact this)
        clear HP
        go_wp2
        go_ret
        exact ⟨_, rfl, own_mono HPM.out.hX HPM.out.own, HPM.out.hX ▸ HPM.out.bel⟩
      | false =>
        have HPM := Lib.hid (show Pt w wr X A q cap b off L ⟨tu, tv, tx, tc⟩ _ L by have := HP.out; rw [if_neg Bool.false_ne_true, HTF.out] at this; exact this)
        have HAE := Lib.hid (tk1_end (t := ⟨tu, tv, tx, tc⟩) (HD0.out rfl))
        rw [HTF.out] at HAE
        clear HP
        have HNE := Lib.hid (own_ne2 HPM.out)
        cases tx with
        | true =>
          have HM := Lib.hid (show tk1 L ⟨tu, tv, true, tc⟩ = L by rw [HAE.out, if_pos rfl]; simp)
          go_wp2
          go_ret
          exact ⟨_, rfl, by rw [HM.out]; exact own_mono HPM.out.hX HPM.out.own, HPM.out.hX ▸ HPM.out.bel⟩
        | false =>
          have HM := Lib.hid (show tk1 L ⟨tu, tv, false, tc⟩ = L ++ [(tu, (tv, tc))] by rw [HAE.out, if_neg Bool.false_ne_true])
          have HLM := Lib.hid (show L.length ≤ 40000 by omega)
          have HX0 := Lib.hid (show X ≤ wr.heap.size from Nat.le_of_lt HPM.out.box.lt)
          clear HAE
          go_wp2_with (first | (at_builtin; refine wpList_append_own _ rfl _ _ 28 rfl (X + 1) 41 i0 _ 4 48 Try.underlying28 hi hz0 hz1 hz2 rfl (by decide) _ L.length (itsC (itsK L)) rfl (HPM.out.own.alloc _) ⟨wr.heap.size, 0, none⟩ 1 1 [.string tu, .int .i64 tv, .bool false, .string tc] rfl rfl (cell_four_new _ _ _ _ _ _) (by simp [Value.oneCell']) (by have := HLM.out; unfold maxLen; omega) (by have := HLM.out; omega) (by have := HPM.out.box.lt; simp; omega) ?_; intro vv w7 hown' hgrow _; have HP7 := Lib.hid (HPM.out.push hown' hgrow HNE.out); clear hown' hgrow) | fail)
          go_wp2
          go_ret
          exact ⟨_, rfl, by rw [HM.out]; exact own_mono HP7.out.hX HP7.out.own, HP7.out.hX ▸ HP7.out.bel⟩
end Go.Proofs.Ytpmgabeefppajaa
