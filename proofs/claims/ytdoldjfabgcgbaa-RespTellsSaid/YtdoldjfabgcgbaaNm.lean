/- The reference's Decode. -/
import Derived.Test.YtdoldjfabgcgbaaNl
namespace Go.Proofs.Ytdoldjfabgcgbaa
open Go.RowKit
open Go.Lib hiding intOf
set_option linter.unusedVariables false
set_option linter.unusedSimpArgs false
set_option maxRecDepth 100000
section
variable {w : World} {g : Nat} {A : Option Addr} {cap b off : Nat} {l : List UInt8} {q : Ps}
theorem ysm_any (h : Rr w g A cap b off l q.p q.e) (hl : l.length ≤ 1000000) : Calls Try.prog 26 #[.pointer (some ⟨g, 0, none⟩)] w fun r w' => r = .returned (.int .i64 (smX l q).1) ∧ Rr w' g A cap b off l (smX l q).2.p (smX l q).2.e ∧ Tg w w' g := xsmall_any h hl
theorem ymk_any (h : Rr w g A cap b off l q.p q.e) (hl : l.length ≤ 1000000) : Calls Try.prog 29 #[.pointer (some ⟨g, 0, none⟩)] w fun r w' => r = .returned (.bool (mkX l q).1) ∧ Rr w' g A cap b off l (mkX l q).2.p (mkX l q).2.e ∧ Tg w w' g := xmark_any h hl
theorem ytx_any (h : Rr w g A cap b off l q.p q.e) (hl : l.length ≤ 1000000) : Calls Try.prog 28 #[.pointer (some ⟨g, 0, none⟩), .int .i64 20000] w fun r w' => r = .returned (.string (textP 20000 l q).1) ∧ Rr w' g A cap b off l (textP 20000 l q).2.p (textP 20000 l q).2.e ∧ Tg w w' g := xtext_any h hl 20000 (by decide)
theorem itsX_lt (l : List UInt8) : ∀ (n : Nat) (q : Ps), ∀ t ∈ (itsX n l q).1, t.v < 9223372036854775808
  | 0, _, t, h => by simp [itsX] at h
  | n + 1, q, t, h => by
    unfold itsX at h
    split at h
    · simp at h
    · rcases List.mem_cons.1 h with rfl | h
      · unfold itX; exact numP_lt _ _
      · exact itsX_lt l n _ t h
theorem smX_nat (l : List UInt8) (q : Ps) : 0 ≤ (smX l q).1 ∧ (smX l q).1 ≤ 2147483647 := by
  have := numP_nat l q
  unfold smX
  simp only
  split <;> omega
set_option maxHeartbeats 4000000 in
theorem decr_kind (kind : Int) (hk : kind < 128 ∨ 139 < kind) (A : Option Addr) (len cap : Nat) (l : List UInt8) : Calls Try.prog 12 #[.int .i64 kind, .slice A len cap] w (DecPost w kind l) := by
  have H0 := Lib.hid (show decR kind l = (0, rpZ, 12) from if_pos hk)
  by_cases h1 : kind < 128
  · go_enter Try.func12, Try.ntmps12
    go_wp2
    exact decr_out (cs := zero8) rfl (g := w.heap.size) rfl rfl (Blk.new w _ _) (decPost_none H0.out ((Below.refl _ _).alloc (Nat.le_refl _) _))
  · have h2 : 139 < kind := by omega
    go_enter Try.func12, Try.ntmps12
    go_wp2
    exact decr_out (cs := zero8) rfl (g := w.heap.size) rfl rfl (Blk.new w _ _) (decPost_none H0.out ((Below.refl _ _).alloc (Nat.le_refl _) _))
set_option maxHeartbeats 16000000 in
theorem decr_read (h : Byt w A l.length cap b off l) (hl : l.length ≤ 1000000) (kind : Int) (h1 : 128 ≤ kind) (h2 : kind ≤ 139) : Calls Try.prog 12 #[.int .i64 kind, .slice A l.length cap] w (DecPost w kind l) := by
  obtain ⟨i0, hi, hz0, hz1, hz2⟩ := info_parts infoIt
  have HD0 := Lib.hid (Dv.start h #[.int .i64 (kind - 128), .int .i64 0, .int .i64 0, .int .i64 0, .string ⟨#[]⟩, .int .i64 0, .bool false, .slice none 0 0])
  obtain ⟨⟨v1, q1⟩, e1⟩ : ∃ z, smX l ⟨0, 0⟩ = z := ⟨_, rfl⟩
  obtain ⟨⟨v2, q2⟩, e2⟩ : ∃ z, numP l q1 = z := ⟨_, rfl⟩
  obtain ⟨⟨v3, q3⟩, e3⟩ : ∃ z, numP l q2 = z := ⟨_, rfl⟩
  obtain ⟨⟨v4, q4⟩, e4⟩ : ∃ z, textP 20000 l q3 = z := ⟨_, rfl⟩
  obtain ⟨⟨v5, q5⟩, e5⟩ : ∃ z, smX l q4 = z := ⟨_, rfl⟩
  obtain ⟨⟨v6, q6⟩, e6⟩ : ∃ z, mkX l q5 = z := ⟨_, rfl⟩
  obtain ⟨⟨v7, q7⟩, e7⟩ : ∃ z, smX l q6 = z := ⟨_, rfl⟩
  have hv7 := smX_nat l q6
  rw [e7] at hv7
  obtain ⟨N, rfl⟩ : ∃ N : Nat, v7 = (N : Int) := ⟨v7.toNat, by simp only at hv7; omega⟩
  have hN : N ≤ 2147483647 := by simp only at hv7; omega
  obtain ⟨T, hT⟩ : ∃ z, itsX N l q7 = z := ⟨_, rfl⟩
  have HT := Lib.hid hT
  have eD : refQ l = (⟨v1, v2, v3, v4, v5, v6, T.1⟩, T.2) := by unfold refQ; simp only [e1, e2, e3, e4, e5, e6, e7, Int.toNat_natCast, hT]
  have l2 : v2 < 9223372036854775808 := by have := numP_lt l q1; rw [e2] at this; exact this
  have l3 : v3 < 9223372036854775808 := by have := numP_lt l q2; rw [e3] at this; exact this
  have HL8 := Lib.hid (show ∀ t ∈ T.1, t.v < 9223372036854775808 by rw [← hT]; exact itsX_lt l N q7)
  obtain ⟨c, hc⟩ : ∃ c, checkR (kind - 128) v1 v2 v3 v4 v5 v6 T.1 = c := ⟨_, rfl⟩
  have HD := Lib.hid (show decR kind l = if (T.2.e == 0 && decide (T.2.p = l.length)) = false then (0, rpZ, 1) else if c ≠ 0 then (0, rpZ, c) else (kind - 128, ⟨v1, v2, v3, v4, v5, v6, T.1⟩, 0) by
    rw [← refR_dec]
    unfold refR checkRp
    rw [if_neg (by omega), eD]
    simp only [hc])
  have HF1 := Lib.hid (fun W g (h : Rr W g A cap b off l 0 0) => ysm_any (q := ⟨0, 0⟩) h hl)
  have HF2 := Lib.hid (fun W g (h : Rr W g A cap b off l q1.p q1.e) => xnum_any (q := q1) h hl)
  have HF3 := Lib.hid (fun W g (h : Rr W g A cap b off l q2.p q2.e) => xnum_any (q := q2) h hl)
  have HF4 := Lib.hid (fun W g (h : Rr W g A cap b off l q3.p q3.e) => ytx_any (q := q3) h hl)
  have HF5 := Lib.hid (fun W g (h : Rr W g A cap b off l q4.p q4.e) => ysm_any (q := q4) h hl)
  have HF6 := Lib.hid (fun W g (h : Rr W g A cap b off l q5.p q5.e) => ymk_any (q := q5) h hl)
  have HF7 := Lib.hid (fun W g (h : Rr W g A cap b off l q6.p q6.e) => ysm_any (q := q6) h hl)
  rw [e1] at HF1
  rw [e2] at HF2
  rw [e3] at HF3
  rw [e4] at HF4
  rw [e5] at HF5
  rw [e6] at HF6
  rw [e7] at HF7
  simp only at HF1 HF2 HF3 HF4 HF5 HF6 HF7
  have HC := Lib.hid (fun W A cap b (h : Its W A T.1.length cap b 0 T.1) => hc ▸ rcheck_any h (kind - 128) v1 v2 v3 v4 v5 v6 l2 l3 HL8.out)
  have HLL := Lib.hid hl
  clear e1 e2 e3 e4 e5 e6 e7 eD l2 l3 HL8 hc hT hv7 h hl
  go_enter Try.func12, Try.ntmps12
  go_wp2_with fail
  refine (HF1.out _ _ HD0.out.rd).mono ?_
  rintro _ y1 ⟨rfl, h1, h2⟩
  have HE1 := Lib.hid (HD0.out.call h1 h2)
  have g1 := HE1.out.bx.cell 1
  have f1 := HE1.out.bx.frozen 1
  have HD1 := Lib.hid (HE1.out.set 1 (.int .i64 v1))
  clear h1 h2
  go_wp2_with fail
  refine (HF2.out _ _ HD1.out.rd).mono ?_
  rintro _ y2 ⟨rfl, h1, h2⟩
  have HE2 := Lib.hid (HD1.out.call h1 h2)
  have g2 := HE2.out.bx.cell 2
  have f2 := HE2.out.bx.frozen 2
  have HD2 := Lib.hid (HE2.out.set 2 (.int .i64 v2))
  clear h1 h2
  go_wp2_with fail
  refine (HF3.out _ _ HD2.out.rd).mono ?_
  rintro _ y3 ⟨rfl, h1, h2⟩
  have HE3 := Lib.hid (HD2.out.call h1 h2)
  have g3 := HE3.out.bx.cell 3
  have f3 := HE3.out.bx.frozen 3
  have HD3 := Lib.hid (HE3.out.set 3 (.int .i64 v3))
  clear h1 h2
  go_wp2_with fail
  refine (HF4.out _ _ HD3.out.rd).mono ?_
  rintro _ y4 ⟨rfl, h1, h2⟩
  have HE4 := Lib.hid (HD3.out.call h1 h2)
  have g4 := HE4.out.bx.cell 4
  have f4 := HE4.out.bx.frozen 4
  have HD4 := Lib.hid (HE4.out.set 4 (.string v4))
  clear h1 h2
  go_wp2_with fail
  refine (HF5.out _ _ HD4.out.rd).mono ?_
  rintro _ y5 ⟨rfl, h1, h2⟩
  have HE5 := Lib.hid (HD4.out.call h1 h2)
  have g5 := HE5.out.bx.cell 5
  have f5 := HE5.out.bx.frozen 5
  have HD5 := Lib.hid (HE5.out.set 5 (.int .i64 v5))
  clear h1 h2
  go_wp2_with fail
  refine (HF6.out _ _ HD5.out.rd).mono ?_
  rintro _ y6 ⟨rfl, h1, h2⟩
  have HE6 := Lib.hid (HD5.out.call h1 h2)
  have g6 := HE6.out.bx.cell 6
  have f6 := HE6.out.bx.frozen 6
  have HD6 := Lib.hid (HE6.out.set 6 (.bool v6))
  clear h1 h2
  go_wp2_with fail
  refine (HF7.out _ _ HD6.out.rd).mono ?_
  rintro _ y7 ⟨rfl, h1, h2⟩
  have HD7 := Lib.hid (HD6.out.call h1 h2)
  clear h1 h2 HD0 HD1 HD2 HD3 HD4 HD5 HD6 HE1 HE2 HE3 HE4 HE5 HE6 HF1 HF2 HF3 HF4 HF5 HF6 HF7 g1 g2 g3 g4 g5 g6 f1 f2 f3 f4 f5 f6
  go_wp2_with fail
  go_loopw [9] (fun i wr => ∃ (j : Nat) (acc : List It) (v : Value) (q : Ps), j ≤ N ∧ i = .int .i64 (j : Int) ∧ acc.length = j ∧ Dv w wr (w.heap.size + 1) w.heap.size (w.heap.size + 1 + 1) #[.int .i64 (kind - 128), .int .i64 v1, .int .i64 v2, .int .i64 v3, .string v4, .int .i64 v5, .bool v6, v] v acc.length (itsC acc) A cap b off l q.p q.e ∧ (acc.length ≤ l.length + 1 ∧ (q.e = 0 → acc.length ≤ q.p)) ∧ T = (acc ++ (itsX (N - j) l q).1, (itsX (N - j) l q).2)) (fun i _ => N - (intOf i).toNat)
  case atStart => exact ⟨0, [], _, q7, Nat.zero_le _, rfl, rfl, HD7.out, ⟨by simp, fun _ => by simp⟩, by rw [Nat.sub_zero, HT.out]; simp⟩
  case round =>
    obtain ⟨j, acc, v, q, hj, rfl, rfl, hD, hfew, hTe⟩ := hrel
    have HV := Lib.hid hD
    have HTE := Lib.hid hTe
    have HFW := Lib.hid hfew
    have r2 := hD.rd.c2
    clear hD hTe hfew HD7
    by_cases hlt : acc.length < N
    · obtain ⟨M, hM⟩ : ∃ M, N - acc.length = M + 1 := ⟨N - acc.length - 1, by omega⟩
      have hltI : (acc.length : Int) < (N : Int) := by omega
      rw [hM] at HTE
      cases he : (q.e == 0) with
      | false =>
        have HTA := Lib.hid (show T = (acc, q) by rw [HTE.out, show itsX (M + 1) l q = ([], q) from if_pos (by simpa using he)]; simp)
        obtain ⟨A7, cap7, b7, rfl, hI, hB7⟩ := own_its2 HV.out.ow
        have HI := Lib.hid hI
        have HB7 := Lib.hid hB7
        clear hI hB7
        rw [HTA.out] at HD HC
        simp only at HD HC
        have HLF := Lib.hid (left_r HV.out.rd HLL.out)
        have hpl := HV.out.rd.hp
        have hqe := he
        have H0 := Lib.hid (show decR kind l = (0, rpZ, 1) by rw [HD.out, hqe]; rfl)
        have hb : (q.e != 0) = true := by simpa using hqe
        have rc0 := HV.out.rb.cell 0
        have rf0 := HV.out.rb.frozen 0
        have rc1 := HV.out.rb.cell 1
        have rf1 := HV.out.rb.frozen 1
        have rc2 := HV.out.rb.cell 2
        have rf2 := HV.out.rb.frozen 2
        have rc3 := HV.out.rb.cell 3
        have rf3 := HV.out.rb.frozen 3
        have rc4 := HV.out.rb.cell 4
        have rf4 := HV.out.rb.frozen 4
        have rc5 := HV.out.rb.cell 5
        have rf5 := HV.out.rb.frozen 5
        have rc6 := HV.out.rb.cell 6
        have rf6 := HV.out.rb.frozen 6
        have rc7 := HV.out.rb.cell 7
        have rf7 := HV.out.rb.frozen 7
        simp only [zero8, List.getElem?_toArray, List.getElem?_cons_zero, List.getElem?_cons_succ] at rc0 rc1 rc2 rc3 rc4 rc5 rc6 rc7
        clear hqe he
        go_wp2
        exact decr_out rfl (g := w.heap.size) rfl rfl (put8 HV.out.rb (.int .i64 0) (.int .i64 0) (.int .i64 0) (.int .i64 0) (.string ⟨#[]⟩) (.int .i64 0) (.bool false) (.slice none 0 0)) (decPost_none H0.out (bel8 HV.out.bel (Nat.le_refl _) (.int .i64 0) (.int .i64 0) (.int .i64 0) (.int .i64 0) (.string ⟨#[]⟩) (.int .i64 0) (.bool false) (.slice none 0 0)))
      | true =>
        have hpe : q.e = 0 := by simpa using he
        obtain ⟨⟨tu, p1⟩, e1⟩ : ∃ z, textP 20000 l q = z := ⟨_, rfl⟩
        obtain ⟨⟨nv, p2⟩, e2⟩ : ∃ z, numP l p1 = z := ⟨_, rfl⟩
        obtain ⟨⟨gx, p3⟩, e3⟩ : ∃ z, mkX l p2 = z := ⟨_, rfl⟩
        obtain ⟨⟨tc, p4⟩, e4⟩ : ∃ z, textP 20000 l p3 = z := ⟨_, rfl⟩
        have eI : itX l q = (⟨tu, nv, gx, tc⟩, p4) := by unfold itX; simp only [e1, e2, e3, e4]
        have hst := itX_step l q
        rw [eI] at hst
        have HTN := Lib.hid (show T = ((acc ++ [⟨tu, nv, gx, tc⟩]) ++ (itsX (N - (acc.length + 1)) l p4).1, (itsX (N - (acc.length + 1)) l p4).2) by
          rw [HTE.out, show itsX (M + 1) l q = ((itX l q).1 :: (itsX M l (itX l q).2).1, (itsX M l (itX l q).2).2) from if_neg (by simpa using hpe), eI, show N - (acc.length + 1) = M by omega]
          simp)
        have hfq := HFW.out.2 hpe
        have hin := HV.out.rd.hp
        have hll := HLL.out
        have HF1 := Lib.hid (fun w0 g (h : Rr w0 g A cap b off l q.p q.e) => e1 ▸ ytx_any h hll)
        have HF2 := Lib.hid (fun w0 g (h : Rr w0 g A cap b off l p1.p p1.e) => e2 ▸ xnum_any h hll)
        have HF3 := Lib.hid (fun w0 g (h : Rr w0 g A cap b off l p2.p p2.e) => e3 ▸ ymk_any h hll)
        have HF4 := Lib.hid (fun w0 g (h : Rr w0 g A cap b off l p3.p p3.e) => e4 ▸ ytx_any h hll)
        simp only at HF1 HF2 HF3 HF4
        have hI0 := HV.out.item #[.string ⟨#[]⟩, .int .i64 0, .bool false, .string ⟨#[]⟩]
        have HS0 := Lib.hid hI0
        clear hI0 eI e1 e2 e3 e4 HTE HV HD HC
        go_wp2_with fail
        refine (HF1.out _ _ HS0.out.dv.rd).mono ?_
        rintro _ w1 ⟨rfl, h1, h2⟩
        have HS1 := Lib.hid (HS0.out.call h1 h2)
        have g1 := HS1.out.bY.cell 0
        have f1 := HS1.out.bY.frozen 0
        have HS2 := Lib.hid (HS1.out.set 0 (.string tu))
        clear h1 h2
        go_wp2_with fail
        refine (HF2.out _ _ HS2.out.dv.rd).mono ?_
        rintro _ w2 ⟨rfl, h1, h2⟩
        have HS3 := Lib.hid (HS2.out.call h1 h2)
        have g2 := HS3.out.bY.cell 1
        have f2 := HS3.out.bY.frozen 1
        have HS4 := Lib.hid (HS3.out.set 1 (.int .i64 nv))
        clear h1 h2
        go_wp2_with fail
        refine (HF3.out _ _ HS4.out.dv.rd).mono ?_
        rintro _ w3 ⟨rfl, h1, h2⟩
        have HS5 := Lib.hid (HS4.out.call h1 h2)
        have g3 := HS5.out.bY.cell 2
        have f3 := HS5.out.bY.frozen 2
        have HS6 := Lib.hid (HS5.out.set 2 (.bool gx))
        clear h1 h2
        go_wp2_with fail
        refine (HF4.out _ _ HS6.out.dv.rd).mono ?_
        rintro _ w4 ⟨rfl, h1, h2⟩
        have HS7 := Lib.hid (HS6.out.call h1 h2)
        have g4 := HS7.out.bY.cell 3
        have f4 := HS7.out.bY.frozen 3
        have HS8 := Lib.hid (HS7.out.set 3 (.string tc))
        have c90 := HS8.out.bY.cell 0
        have c91 := HS8.out.bY.cell 1
        have c92 := HS8.out.bY.cell 2
        have c93 := HS8.out.bY.cell 3
        have x7 := HS8.out.dv.bx.cell 7
        have HOA := Lib.hid (HS8.out.dv.ow.alloc (.cells #[.string tu, .int .i64 nv, .bool gx, .string tc] 39))
        have HBK := Lib.hid (show Blk ((w4.setCell ⟨wr.heap.size, 3, none⟩ (.string tc)).alloc (.cells #[.string tu, .int .i64 nv, .bool gx, .string tc] 39)) w4.heap.size 39 #[.string tu, .int .i64 nv, .bool gx, .string tc] from by
          have := Blk.new (w4.setCell ⟨wr.heap.size, 3, none⟩ (.string tc)) 39 #[.string tu, .int .i64 nv, .bool gx, .string tc]
          simpa [World.setCell] using this)
        have HSZ := Lib.hid (show w.heap.size + 1 + 1 + 1 ≤ ((w4.setCell ⟨wr.heap.size, 3, none⟩ (.string tc)).alloc (.cells #[.string tu, .int .i64 nv, .bool gx, .string tc] 39)).heap.size by
          have := HS8.out.dv.bx.lt
          simp [World.setCell] at this ⊢; omega)
        clear h1 h2
        go_wp2_with (at_builtin; refine wpList_append_own _ rfl _ _ 23 rfl (w.heap.size + 1 + 1 + 1) 39 i0 _ 4 48 Try.underlying23 hi hz0 hz1 hz2 rfl (by decide) _ _ _ rfl HOA.out ⟨w4.heap.size, 0, none⟩ 1 1 [.string tu, .int .i64 nv, .bool gx, .string tc] rfl rfl ?c1 ?c2 ?c3 ?c4 ?c5 ?_)
        case c1 =>
          intro i u hu
          have e := HBK.out.cell i
          rw [show (⟨w4.heap.size, 0, none⟩ : Addr).add i = ⟨w4.heap.size, i, none⟩ by unfold Addr.add; split <;> simp_all, e, ← hu]
          simp
        case c2 =>
          intro u hu
          simp only [List.mem_cons, List.not_mem_nil, or_false] at hu
          rcases hu with rfl | rfl | rfl | rfl <;> rfl
        case c3 => unfold maxLen; omega
        case c4 => omega
        case c5 => exact HSZ.out
        intro v' w9 h1 h2 h3
        obtain ⟨g', cap', rfl⟩ := row_succ h1
        have h4 := HS8.out.fin h2 h1
        have HV9 := Lib.hid h4.2
        have d7 := h4.1.cell 7
        have e7 := h4.1.frozen 7
        clear h1 h2 h3 h4
        go_wp2
        go_roundw
        case rel => exact ⟨acc.length + 1, acc ++ [⟨tu, nv, gx, tc⟩], _, p4, by omega, by go_num, by rw [List.length_append]; rfl, by rw [itsC_snoc, List.length_append]; exact HV9.out, ⟨by rw [List.length_append]; show acc.length + 1 ≤ _; omega, fun e => by rw [List.length_append]; have := hst.2 e; show acc.length + 1 ≤ _; omega⟩, HTN.out⟩
        case measure => simp [intOf]; omega
    · obtain rfl : acc.length = N := by omega
      have hltI : ¬ (acc.length : Int) < (acc.length : Int) := by omega
      have HTA := Lib.hid (show T = (acc, q) by rw [HTE.out, Nat.sub_self]; simp [itsX])
      obtain ⟨A7, cap7, b7, rfl, hI, hB7⟩ := own_its2 HV.out.ow
      have HI := Lib.hid hI
      have HB7 := Lib.hid hB7
      clear hI hB7
      rw [HTA.out] at HD HC
      simp only at HD HC
      have HLF := Lib.hid (left_r HV.out.rd HLL.out)
      have hpl := HV.out.rd.hp
      cases hqe : (q.e == 0) with
      | false =>
        have H0 := Lib.hid (show decR kind l = (0, rpZ, 1) by rw [HD.out, hqe]; rfl)
        have hb : (q.e != 0) = true := by simpa using hqe
        have rc0 := HV.out.rb.cell 0
        have rf0 := HV.out.rb.frozen 0
        have rc1 := HV.out.rb.cell 1
        have rf1 := HV.out.rb.frozen 1
        have rc2 := HV.out.rb.cell 2
        have rf2 := HV.out.rb.frozen 2
        have rc3 := HV.out.rb.cell 3
        have rf3 := HV.out.rb.frozen 3
        have rc4 := HV.out.rb.cell 4
        have rf4 := HV.out.rb.frozen 4
        have rc5 := HV.out.rb.cell 5
        have rf5 := HV.out.rb.frozen 5
        have rc6 := HV.out.rb.cell 6
        have rf6 := HV.out.rb.frozen 6
        have rc7 := HV.out.rb.cell 7
        have rf7 := HV.out.rb.frozen 7
        simp only [zero8, List.getElem?_toArray, List.getElem?_cons_zero, List.getElem?_cons_succ] at rc0 rc1 rc2 rc3 rc4 rc5 rc6 rc7
        clear hqe
        go_wp2
        exact decr_out rfl (g := w.heap.size) rfl rfl (put8 HV.out.rb (.int .i64 0) (.int .i64 0) (.int .i64 0) (.int .i64 0) (.string ⟨#[]⟩) (.int .i64 0) (.bool false) (.slice none 0 0)) (decPost_none H0.out (bel8 HV.out.bel (Nat.le_refl _) (.int .i64 0) (.int .i64 0) (.int .i64 0) (.int .i64 0) (.string ⟨#[]⟩) (.int .i64 0) (.bool false) (.slice none 0 0)))
      | true =>
        have hb : (q.e != 0) = false := by rw [show q.e = 0 by simpa using hqe]; rfl
        by_cases hpe : q.p = l.length
        · have hd0 : ((l.length : Int) - (q.p : Int) != 0) = false := by simp; omega
          have HD3 := Lib.hid (show decR kind l = if c ≠ 0 then (0, rpZ, c) else (kind - 128, ⟨v1, v2, v3, v4, v5, v6, acc⟩, 0) by rw [HD.out, hqe, decide_eq_true hpe]; rfl)
          clear hqe HD
          go_wp2_with fail
          refine HLF.out.mono ?_
          rintro _ z1 ⟨rfl, hbb⟩
          have HV1 := Lib.hid (HV.out.keep hbb)
          have HI1 := Lib.hid (HI.out.below hbb (fun hl => (HI.out.addr hl).2))
          clear hbb
          have s0 := HV1.out.bx.cell 0
          have s1 := HV1.out.bx.cell 1
          have s2 := HV1.out.bx.cell 2
          have s3 := HV1.out.bx.cell 3
          have s4 := HV1.out.bx.cell 4
          have s5 := HV1.out.bx.cell 5
          have s6 := HV1.out.bx.cell 6
          have s7 := HV1.out.bx.cell 7
          go_wp2_with fail
          refine (HC.out _ _ _ _ HI1.out).mono ?_
          rintro _ z2 ⟨rfl, hbb⟩
          have HV2 := Lib.hid (HV1.out.keep hbb)
          have HI2 := Lib.hid (HI1.out.below hbb (fun hl => (HI1.out.addr hl).2))
          clear hbb
          have t0 := HV2.out.bx.cell 0
          have t1 := HV2.out.bx.cell 1
          have t2 := HV2.out.bx.cell 2
          have t3 := HV2.out.bx.cell 3
          have t4 := HV2.out.bx.cell 4
          have t5 := HV2.out.bx.cell 5
          have t6 := HV2.out.bx.cell 6
          have t7 := HV2.out.bx.cell 7
          have rc0 := HV2.out.rb.cell 0
          have rf0 := HV2.out.rb.frozen 0
          have rc1 := HV2.out.rb.cell 1
          have rf1 := HV2.out.rb.frozen 1
          have rc2 := HV2.out.rb.cell 2
          have rf2 := HV2.out.rb.frozen 2
          have rc3 := HV2.out.rb.cell 3
          have rf3 := HV2.out.rb.frozen 3
          have rc4 := HV2.out.rb.cell 4
          have rf4 := HV2.out.rb.frozen 4
          have rc5 := HV2.out.rb.cell 5
          have rf5 := HV2.out.rb.frozen 5
          have rc6 := HV2.out.rb.cell 6
          have rf6 := HV2.out.rb.frozen 6
          have rc7 := HV2.out.rb.cell 7
          have rf7 := HV2.out.rb.frozen 7
          simp only [zero8, List.getElem?_toArray, List.getElem?_cons_zero, List.getElem?_cons_succ] at rc0 rc1 rc2 rc3 rc4 rc5 rc6 rc7
          by_cases hz : c = 0
          · have H0 := Lib.hid (show decR kind l = (kind - 128, ⟨v1, v2, v3, v4, v5, v6, acc⟩, 0) by rw [HD3.out, if_neg (by simpa using hz)])
            have hz2 : (c != 0) = false := by simpa using hz
            go_wp2
            refine decr_out rfl (g := w.heap.size) rfl rfl (put8 HV2.out.rb (.int .i64 (kind - 128)) (.int .i64 v1) (.int .i64 v2) (.int .i64 v3) (.string v4) (.int .i64 v5) (.bool v6) (.slice A7 acc.length cap7)) ?_
            unfold DecPost
            rw [H0.out]
            exact ⟨A7, cap7, b7, rfl, HI2.out.blk (Nat.le_of_eq (size8 ..).symm) (fun h => heap8 (by have := HB7.out h; omega) ..), fun h => by have := HB7.out h; show w.heap.size ≤ b7; omega, bel8 HV2.out.bel (Nat.le_refl _) (.int .i64 (kind - 128)) (.int .i64 v1) (.int .i64 v2) (.int .i64 v3) (.string v4) (.int .i64 v5) (.bool v6) (.slice A7 acc.length cap7)⟩
          · have H0 := Lib.hid (show decR kind l = (0, rpZ, c) by rw [HD3.out, if_pos hz])
            have hz2 : (c != 0) = true := by simpa using hz
            go_wp2
            exact decr_out rfl (g := w.heap.size) rfl rfl (put8 HV2.out.rb (.int .i64 0) (.int .i64 0) (.int .i64 0) (.int .i64 0) (.string ⟨#[]⟩) (.int .i64 0) (.bool false) (.slice none 0 0)) (decPost_none H0.out (bel8 HV2.out.bel (Nat.le_refl _) (.int .i64 0) (.int .i64 0) (.int .i64 0) (.int .i64 0) (.string ⟨#[]⟩) (.int .i64 0) (.bool false) (.slice none 0 0)))
        · have hd0 : ((l.length : Int) - (q.p : Int) != 0) = true := by simp; omega
          have H0 := Lib.hid (show decR kind l = (0, rpZ, 1) by rw [HD.out, hqe, decide_eq_false hpe]; rfl)
          clear hqe HD
          go_wp2_with fail
          refine HLF.out.mono ?_
          rintro _ z1 ⟨rfl, hbb⟩
          have HV1 := Lib.hid (HV.out.keep hbb)
          clear hbb
          have rc0 := HV1.out.rb.cell 0
          have rf0 := HV1.out.rb.frozen 0
          have rc1 := HV1.out.rb.cell 1
          have rf1 := HV1.out.rb.frozen 1
          have rc2 := HV1.out.rb.cell 2
          have rf2 := HV1.out.rb.frozen 2
          have rc3 := HV1.out.rb.cell 3
          have rf3 := HV1.out.rb.frozen 3
          have rc4 := HV1.out.rb.cell 4
          have rf4 := HV1.out.rb.frozen 4
          have rc5 := HV1.out.rb.cell 5
          have rf5 := HV1.out.rb.frozen 5
          have rc6 := HV1.out.rb.cell 6
          have rf6 := HV1.out.rb.frozen 6
          have rc7 := HV1.out.rb.cell 7
          have rf7 := HV1.out.rb.frozen 7
          simp only [zero8, List.getElem?_toArray, List.getElem?_cons_zero, List.getElem?_cons_succ] at rc0 rc1 rc2 rc3 rc4 rc5 rc6 rc7
          go_wp2
          exact decr_out rfl (g := w.heap.size) rfl rfl (put8 HV1.out.rb (.int .i64 0) (.int .i64 0) (.int .i64 0) (.int .i64 0) (.string ⟨#[]⟩) (.int .i64 0) (.bool false) (.slice none 0 0)) (decPost_none H0.out (bel8 HV1.out.bel (Nat.le_refl _) (.int .i64 0) (.int .i64 0) (.int .i64 0) (.int .i64 0) (.string ⟨#[]⟩) (.int .i64 0) (.bool false) (.slice none 0 0)))
theorem decr_any (h : Byt w A l.length cap b off l) (hl : l.length ≤ 1000000) (kind : Int) : Calls Try.prog 12 #[.int .i64 kind, .slice A l.length cap] w (DecPost w kind l) := by
  by_cases hk : kind < 128 ∨ 139 < kind
  · exact decr_kind kind hk A l.length cap l
  · exact decr_read h hl kind (by omega) (by omega)
end
end Go.Proofs.Ytdoldjfabgcgbaa
