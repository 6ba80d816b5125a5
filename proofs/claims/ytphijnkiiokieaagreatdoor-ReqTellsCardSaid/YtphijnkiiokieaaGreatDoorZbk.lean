/- Texts of one proof, joined. -/
import Derived.Test.YtphijnkiiokieaaGreatDoorZbj
set_option linter.unusedVariables false
set_option linter.unusedSimpArgs false
set_option maxRecDepth 100000
set_option maxHeartbeats 80000000
namespace Go.Proofs.YtphijnkiiokieaaGreatDoor
open Go.RowKit
open Go.Lib hiding intOf
section
variable {w : World} {A : Option Addr} {len cap b off : Nat} {l : List UInt8}
theorem rdec_k7 (h : Byt w A l.length cap b off l) (hl : l.length ≤ 1000000) : Calls Tryz.prog 13 #[.int .i64 7, .slice A l.length cap] w (DecQ w (decQ 7 l)) := by
 obtain ⟨i0, hi, hz0, hz1, hz2⟩ := q_info_parts infoOp; have HDR := Zh (decQ_ref l (show kindB 7 = true from rfl)); obtain ⟨⟨v1, q1⟩, e1⟩ : ∃ z, textP 20000 l ⟨0, 0⟩ = z := ⟨_, rfl⟩; obtain ⟨⟨n2, q2⟩, e2⟩ : ∃ z, smX l q1 = z := ⟨_, rfl⟩; have hn2 := smX_nat l q1; rw [e2] at hn2; simp only at hn2; obtain ⟨N, rfl⟩ : ∃ N : Nat, n2 = (N : Int) := ⟨n2.toNat, by omega⟩; have hNb : N ≤ 2147483647 := by omega
 have z1 : v1.size ≤ 20000 := by have := textP_size l ⟨0, 0⟩; rw [e1] at this; exact this
 have eR : refQ 7 l = ((⟨7, bE, v1, bE, bE, 0, 0, (opsZ l q1).1, 0, 0, 0⟩ : Rq), (opsZ l q1).2) := by
  have e0 : refQ 7 l = (⟨7, bE, (textP 20000 l ⟨0, 0⟩).1, bE, bE, 0, 0, (opsZ l (textP 20000 l ⟨0, 0⟩).2).1, 0, 0, 0⟩, (opsZ l (textP 20000 l ⟨0, 0⟩).2).2) := by
   unfold refQ
   simp only [show hT 7 = false by decide, show hC 7 = true by decide, show hU 7 = false by decide, show hK 7 = false by decide, show hN 7 = false by decide, show hO 7 = true by decide, show hW 7 = false by decide, show hM 7 = false by decide, show hI 7 = false by decide]
   rfl
  rw [e0]; simp only [e1]
 rw [eR] at HDR; simp only at HDR; have HF1 := Zh (fun W (h : Rr W (w.heap.size + 1) A cap b off l (⟨0, 0⟩ : Ps).p (⟨0, 0⟩ : Ps).e) => (show Calls Tryz.prog 37 #[.pointer (some ⟨w.heap.size + 1, 0, none⟩), .int .i64 20000] W _ from xtext_any h hl 20000 (by decide))); have HF2 := Zh (fun W (h : Rr W (w.heap.size + 1) A cap b off l q1.p q1.e) => (show Calls Tryz.prog 39 #[.pointer (some ⟨w.heap.size + 1, 0, none⟩)] W fun r w' => r = .returned (.int .i64 (smX l q1).1) ∧ Rr w' (w.heap.size + 1) A cap b off l (smX l q1).2.p (smX l q1).2.e ∧ Tg W w' (w.heap.size + 1) from xsmall_any h hl)); rw [e1] at HF1; rw [e2] at HF2; simp only at HF1 HF2; have HLL := Zh hl; have hlI : (l.length : Int) ≤ 1000000 := by omega
 have HD0 := Zh (Dr.start h #[.int .i64 7, .string ⟨#[]⟩, .string ⟨#[]⟩, .string ⟨#[]⟩, .string ⟨#[]⟩, .int .i64 0, .int .i64 0, .slice none 0 0, .int .i64 0, .int .i64 0, .int .i64 0])
 by_cases hbig : 16 < N
 ·
  have H0 := Zh (show decQ 7 l = (rqZ, 1) by
   rw [HDR.out, show opsZ l q1 = ([], ⟨q2.p, 1⟩) by unfold opsZ; rw [e2, if_pos (by simp only; omega)]]
   rw [if_pos (by simp)])
  have hbI : 16 < (N : Int) := by omega
  clear e1 e2 eR HDR h hl z1 hn2
  go_enter Tryz.func13, Tryz.ntmps13
  go_wp2_with fail
  refine (HF1.out _ HD0.out.rr).mono ?_; rintro _ y1 ⟨rfl, h1, h2⟩; have HE1 := Zh (HD0.out.call h1 h2); have g1_2 := HE1.out.bx.cell 2; have f1_2 := HE1.out.bx.frozen 2; have HD1 := Zh (HE1.out.set 2 (.string v1)); clear h1 h2
  go_wp2_with fail
  refine (HF2.out _ HD1.out.rr).mono ?_; rintro _ y2 ⟨rfl, h1, h2⟩; have HD2 := Zh (HD1.out.call h1 h2); clear h1 h2; obtain ⟨rc0, rf0, rc1, rf1, rc2, rf2, rc3, rf3, rc4, rf4, rc5, rf5, rc6, rf6, rc7, rf7, rc8, rf8, rc9, rf9, rc10, rf10⟩ := cz11 HD2.out.rb
  go_wp2
  exact rdec_out rfl (g := w.heap.size) rfl rfl (put11 HD2.out.rb _ _ _ _ _ _ _ _ _ _ _) (decQ_none H0.out (bel11 HD2.out.bel (Nat.le_refl _) _ _ _ _ _ _ _ _ _ _ _))
 ·
  have hsm : N ≤ 16 := by omega
  have hsI : (N : Int) ≤ 16 := by omega
  have HTz := Zh (show opsZ l q1 = opsX N l q2 by unfold opsZ; rw [e2, if_neg (by simp only; omega)]; simp); rw [HTz.out] at HDR; have hTs := opsX_sz l N q2; obtain ⟨T, hT⟩ : ∃ z, opsX N l q2 = z := ⟨_, rfl⟩; rw [hT] at HDR hTs; have HT := Zh hT; have hsz : SzQ (⟨7, bE, v1, bE, bE, 0, 0, T.1, 0, 0, 0⟩ : Rq) := ⟨(by show ByteArray.size bE ≤ _; decide), (by show ByteArray.size v1 ≤ _; omega), (by show ByteArray.size bE ≤ _; decide), (by show ByteArray.size bE ≤ _; decide), hTs.2, (by have := hTs.1; show T.1.length ≤ _; omega)⟩; obtain ⟨c, hc⟩ : ∃ c, checkQ (⟨7, bE, v1, bE, bE, 0, 0, T.1, 0, 0, 0⟩ : Rq) = c := ⟨_, rfl⟩; rw [hc] at HDR; have HC := Zh (fun W A2 cap2 b2 (h : Ops W A2 T.1.length cap2 b2 0 T.1) => hc ▸ rcheck_any (q := (⟨7, bE, v1, bE, bE, 0, 0, T.1, 0, 0, 0⟩ : Rq)) h hsz); have HD := Zh HDR.out; clear e1 e2 eR HDR HTz hc hT hsz hTs h hl z1 hn2 hNb hbig
  go_enter Tryz.func13, Tryz.ntmps13
  go_wp2_with fail
  refine (HF1.out _ HD0.out.rr).mono ?_; rintro _ y1 ⟨rfl, h1, h2⟩; have HE1 := Zh (HD0.out.call h1 h2); have g1_2 := HE1.out.bx.cell 2; have f1_2 := HE1.out.bx.frozen 2; have HD1 := Zh (HE1.out.set 2 (.string v1)); clear h1 h2
  go_wp2_with fail
  refine (HF2.out _ HD1.out.rr).mono ?_; rintro _ y2 ⟨rfl, h1, h2⟩; have HD2 := Zh (HD1.out.call h1 h2); clear h1 h2; have HD7 := Zh HD2.out.du; clear HD0 HD1 HD2 HE1 HF1 HF2 g1_2 f1_2
  go_wp2_with fail
  go_loopw [9] (fun i wr => ∃ (j : Nat) (acc : List Opn) (v : Value) (q : Ps), j ≤ N ∧ i = .int .i64 (j : Int) ∧ acc.length = j ∧ Du w wr (w.heap.size + 1) w.heap.size (w.heap.size + 1 + 1) #[.int .i64 7, .string ⟨#[]⟩, .string v1, .string ⟨#[]⟩, .string ⟨#[]⟩, .int .i64 0, .int .i64 0, v, .int .i64 0, .int .i64 0, .int .i64 0] v (acc).length (opsC (acc)) A cap b off l q ∧ T = (acc ++ (opsX (N - j) l q).1, (opsX (N - j) l q).2)) (fun i _ => N - (intOf i).toNat)
  case atStart => exact ⟨0, [], _, q2, Nat.zero_le _, rfl, rfl, HD7.out, by rw [Nat.sub_zero, HT.out]; simp⟩
  case round =>
   obtain ⟨j, acc, v, q, hj, rfl, rfl, hD, hTe⟩ := hrel; have HV := Zh hD; have HTE := Zh hTe; have r2 := hD.rr.c2; clear hD hTe HD7
   by_cases hlt : acc.length < N
   ·
    obtain ⟨M, hM⟩ : ∃ M, N - acc.length = M + 1 := ⟨N - acc.length - 1, by omega⟩; have hltI : (acc.length : Int) < (N : Int) := by omega
    rw [hM] at HTE
    cases he : (q.e == 0) with
    | false =>
     have HTA := Zh (show T = (acc, q) by rw [HTE.out, show opsX (M + 1) l q = ([], q) from if_pos (by simpa using he)]; simp); have hqF : (q.e != 0) = true := by simpa using he
     rw [HTA.out] at HD HC; simp only at HD HC; have H0 := Zh (show decQ 7 l = (rqZ, 1) by rw [HD.out, he]; rfl); obtain ⟨rc0, rf0, rc1, rf1, rc2, rf2, rc3, rf3, rc4, rf4, rc5, rf5, rc6, rf6, rc7, rf7, rc8, rf8, rc9, rf9, rc10, rf10⟩ := cz11 HV.out.rb
     go_wp2
     exact rdec_out rfl (g := w.heap.size) rfl rfl (put11 HV.out.rb _ _ _ _ _ _ _ _ _ _ _) (decQ_none H0.out (bel11 HV.out.bel (Nat.le_refl _) _ _ _ _ _ _ _ _ _ _ _))
    | true =>
     have hpe : q.e = 0 := by simpa using he
     obtain ⟨⟨gx, p1⟩, e1⟩ : ∃ z, mkX l q = z := ⟨_, rfl⟩; obtain ⟨⟨tu, p2⟩, e2⟩ : ∃ z, textP 20000 l p1 = z := ⟨_, rfl⟩; obtain ⟨⟨tc, p3⟩, e3⟩ : ∃ z, otP (!gx) l p2 = z := ⟨_, rfl⟩; obtain ⟨⟨⟨ck, cv⟩, p4⟩, e4⟩ : ∃ z, condX l p3 = z := ⟨_, rfl⟩; have eI : opX l q = (⟨gx, tu, tc, ck, cv⟩, p4) := by unfold opX; simp only [e1, e2, e3, e4]
     have HTN := Zh (show T = ((acc ++ [⟨gx, tu, tc, ck, cv⟩]) ++ (opsX (N - (acc.length + 1)) l p4).1, (opsX (N - (acc.length + 1)) l p4).2) by
      rw [HTE.out, show opsX (M + 1) l q = ((opX l q).1 :: (opsX M l (opX l q).2).1, (opsX M l (opX l q).2).2) from if_neg (by simpa using hpe), eI, show N - (acc.length + 1) = M by omega]
      simp)
     have hll := HLL.out; have HF1 := Zh (fun w0 g (h : Rr w0 g A cap b off l q.p q.e) => (show Calls Tryz.prog 40 #[.pointer (some ⟨g, 0, none⟩)] w0 fun r w' => r = .returned (.bool (mkX l q).1) ∧ Rr w' g A cap b off l (mkX l q).2.p (mkX l q).2.e ∧ Tg w0 w' g from xmark_any h hll)); rw [e1] at HF1; have HF2 := Zh (fun w0 g (h : Rr w0 g A cap b off l p1.p p1.e) => (show Calls Tryz.prog 37 #[.pointer (some ⟨g, 0, none⟩), .int .i64 20000] w0 fun r w' => r = .returned (.string (textP 20000 l p1).1) ∧ Rr w' g A cap b off l (textP 20000 l p1).2.p (textP 20000 l p1).2.e ∧ Tg w0 w' g from xtext_any h hll 20000 (by decide))); rw [e2] at HF2; have HF3 := Zh (fun (hgx : gx = false) w0 g (h : Rr w0 g A cap b off l p2.p p2.e) => show Calls Tryz.prog 37 #[.pointer (some ⟨g, 0, none⟩), .int .i64 20000] w0 fun r w' => r = .returned (.string tc) ∧ Rr w' g A cap b off l p3.p p3.e ∧ Tg w0 w' g from by
      have e3' : textP 20000 l p2 = (tc, p3) := by subst hgx; exact e3
      have := (show Calls Tryz.prog 37 #[.pointer (some ⟨g, 0, none⟩), .int .i64 20000] w0 fun r w' => r = .returned (.string (textP 20000 l p2).1) ∧ Rr w' g A cap b off l (textP 20000 l p2).2.p (textP 20000 l p2).2.e ∧ Tg w0 w' g from xtext_any h hll 20000 (by decide)); rw [e3'] at this
      exact this)
     have HZ3 := Zh (fun (hgx : gx = true) => show tc = bE ∧ p3 = p2 by subst hgx; exact ⟨(congrArg Prod.fst e3).symm, (congrArg Prod.snd e3).symm⟩); have HF4 := Zh (fun w0 g (h : Rr w0 g A cap b off l p3.p p3.e) => rcond_any h hll); rw [e4] at HF4; simp only at HF1 HF2 HF4; have hI0 := HV.out.item #[.bool false, .string ⟨#[]⟩, .string ⟨#[]⟩, .int .i64 0, .int .i64 0]; have HS0 := Zh hI0; clear hI0 eI e1 e2 e3 e4 HTE HV HD HC hll hpe; have heB : (q.e == 0) = true := he
     go_wp2_with fail
     refine (HF1.out _ _ HS0.out.dv.rr).mono ?_; rintro _ w1 ⟨rfl, h1, h2⟩; have HS1 := Zh (HS0.out.call h1 h2); have g1 := HS1.out.bY.cell 0; have f1 := HS1.out.bY.frozen 0; have HS2 := Zh (HS1.out.set 0 (.bool gx)); clear h1 h2
     go_wp2_with fail
     refine (HF2.out _ _ HS2.out.dv.rr).mono ?_; rintro _ w2 ⟨rfl, h1, h2⟩; have HS3 := Zh (HS2.out.call h1 h2); have g2 := HS3.out.bY.cell 1; have f2 := HS3.out.bY.frozen 1; have HS4 := Zh (HS3.out.set 1 (.string tu)); have g40 := HS4.out.bY.cell 0; clear h1 h2
     cases gx with
     | true =>
      obtain ⟨rfl, rfl⟩ := HZ3.out rfl
      go_wp2_with fail
      refine (HF4.out _ _ HS4.out.dv.rr).mono ?_; rintro _ w6 ⟨rfl, h1, h2⟩; have HS6 := Zh (HS4.out.call h1 h2); have g63 := HS6.out.bY.cell 3; have f63 := HS6.out.bY.frozen 3; have g64 := HS6.out.bY.cell 4; have f64 := HS6.out.bY.frozen 4; have HS7 := Zh (HS6.out.set 3 (.int .i64 ck)); have HS9 := Zh (HS7.out.set 4 (.int .i64 cv)); have c90 := HS9.out.bY.cell 0; have c91 := HS9.out.bY.cell 1; have c92 := HS9.out.bY.cell 2; have c93 := HS9.out.bY.cell 3; have c94 := HS9.out.bY.cell 4; have x7 := HS9.out.dv.bx.cell 7; have HOA := Zh (HS9.out.dv.ow.alloc (.cells #[.bool true, .string tu, .string ⟨#[]⟩, .int .i64 ck, .int .i64 cv] 43)); have HBK := Zh (show Blk (((w6.setCell ⟨wr.heap.size, 3, none⟩ (.int .i64 ck)).setCell ⟨wr.heap.size, 4, none⟩ (.int .i64 cv)).alloc (.cells #[.bool true, .string tu, .string ⟨#[]⟩, .int .i64 ck, .int .i64 cv] 43)) w6.heap.size 43 #[.bool true, .string tu, .string ⟨#[]⟩, .int .i64 ck, .int .i64 cv] from by
       have := Blk.new ((w6.setCell ⟨wr.heap.size, 3, none⟩ (.int .i64 ck)).setCell ⟨wr.heap.size, 4, none⟩ (.int .i64 cv)) 43 #[.bool true, .string tu, .string ⟨#[]⟩, .int .i64 ck, .int .i64 cv]
       simpa [World.setCell] using this)
      have HSZ := Zh (show w.heap.size + 1 + 1 + 1 ≤ (((w6.setCell ⟨wr.heap.size, 3, none⟩ (.int .i64 ck)).setCell ⟨wr.heap.size, 4, none⟩ (.int .i64 cv)).alloc (.cells #[.bool true, .string tu, .string ⟨#[]⟩, .int .i64 ck, .int .i64 cv] 43)).heap.size by
       have := HS9.out.dv.bx.lt
       simp [World.setCell] at this ⊢; omega)
      clear h1 h2
      go_wp2_with (at_builtin; refine wpList_append_own _ rfl _ _ 24 rfl (w.heap.size + 1 + 1 + 1) 43 i0 _ 5 56 Tryz.underlying24 hi hz0 hz1 hz2 rfl (by decide) _ _ _ rfl HOA.out ⟨w6.heap.size, 0, none⟩ 1 1 [.bool true, .string tu, .string ⟨#[]⟩, .int .i64 ck, .int .i64 cv] rfl rfl ?ctrue1 ?ctrue2 ?ctrue3 ?ctrue4 ?ctrue5 ?_)
      case ctrue1 =>
       intro j u hj; have e := HBK.out.cell j; rw [show (⟨w6.heap.size, 0, none⟩ : Addr).add j = ⟨w6.heap.size, j, none⟩ by unfold Addr.add; split <;> simp_all, e, ← hj]
       simp
      case ctrue2 =>
       intro u hu; simp only [List.mem_cons, List.not_mem_nil, or_false] at hu
       rcases hu with rfl | rfl | rfl | rfl | rfl <;> rfl
      case ctrue3 => unfold maxLen; omega
      case ctrue4 => omega
      case ctrue5 => exact HSZ.out
      intro v' w9 h1 h2 h3; obtain ⟨g', cap', rfl⟩ := q_row_succ h1; have h4 := HS9.out.fin h2 h1; have HV9 := Zh h4.2; have d7 := h4.1.cell 7; have e7 := h4.1.frozen 7; clear h1 h2 h3 h4
      go_wp2
      go_roundw
      case rel => exact ⟨acc.length + 1, acc ++ [⟨true, tu, ⟨#[]⟩, ck, cv⟩], _, p4, by omega, by go_num, by rw [List.length_append]; rfl, by rw [opsC_snoc, List.length_append]; exact HV9.out, HTN.out⟩
      case measure => simp [intOf]; omega
     | false =>
      go_wp2_with fail
      refine ((HF3.out (by trivial)) _ _ HS4.out.dv.rr).mono ?_; rintro _ w4 ⟨rfl, h1, h2⟩; have HS5 := Zh (HS4.out.call h1 h2); have g5 := HS5.out.bY.cell 2; have f5 := HS5.out.bY.frozen 2; have HS5b := Zh (HS5.out.set 2 (.string tc)); clear h1 h2
      go_wp2_with fail
      refine (HF4.out _ _ HS5b.out.dv.rr).mono ?_; rintro _ w6 ⟨rfl, h1, h2⟩; have HS6 := Zh (HS5b.out.call h1 h2); have g63 := HS6.out.bY.cell 3; have f63 := HS6.out.bY.frozen 3; have g64 := HS6.out.bY.cell 4; have f64 := HS6.out.bY.frozen 4; have HS7 := Zh (HS6.out.set 3 (.int .i64 ck)); have HS9 := Zh (HS7.out.set 4 (.int .i64 cv)); have c90 := HS9.out.bY.cell 0; have c91 := HS9.out.bY.cell 1; have c92 := HS9.out.bY.cell 2; have c93 := HS9.out.bY.cell 3; have c94 := HS9.out.bY.cell 4; have x7 := HS9.out.dv.bx.cell 7; have HOA := Zh (HS9.out.dv.ow.alloc (.cells #[.bool false, .string tu, .string tc, .int .i64 ck, .int .i64 cv] 43)); have HBK := Zh (show Blk (((w6.setCell ⟨wr.heap.size, 3, none⟩ (.int .i64 ck)).setCell ⟨wr.heap.size, 4, none⟩ (.int .i64 cv)).alloc (.cells #[.bool false, .string tu, .string tc, .int .i64 ck, .int .i64 cv] 43)) w6.heap.size 43 #[.bool false, .string tu, .string tc, .int .i64 ck, .int .i64 cv] from by
       have := Blk.new ((w6.setCell ⟨wr.heap.size, 3, none⟩ (.int .i64 ck)).setCell ⟨wr.heap.size, 4, none⟩ (.int .i64 cv)) 43 #[.bool false, .string tu, .string tc, .int .i64 ck, .int .i64 cv]
       simpa [World.setCell] using this)
      have HSZ := Zh (show w.heap.size + 1 + 1 + 1 ≤ (((w6.setCell ⟨wr.heap.size, 3, none⟩ (.int .i64 ck)).setCell ⟨wr.heap.size, 4, none⟩ (.int .i64 cv)).alloc (.cells #[.bool false, .string tu, .string tc, .int .i64 ck, .int .i64 cv] 43)).heap.size by
       have := HS9.out.dv.bx.lt
       simp [World.setCell] at this ⊢; omega)
      clear h1 h2
      go_wp2_with (at_builtin; refine wpList_append_own _ rfl _ _ 24 rfl (w.heap.size + 1 + 1 + 1) 43 i0 _ 5 56 Tryz.underlying24 hi hz0 hz1 hz2 rfl (by decide) _ _ _ rfl HOA.out ⟨w6.heap.size, 0, none⟩ 1 1 [.bool false, .string tu, .string tc, .int .i64 ck, .int .i64 cv] rfl rfl ?cfalse1 ?cfalse2 ?cfalse3 ?cfalse4 ?cfalse5 ?_)
      case cfalse1 =>
       intro j u hj; have e := HBK.out.cell j; rw [show (⟨w6.heap.size, 0, none⟩ : Addr).add j = ⟨w6.heap.size, j, none⟩ by unfold Addr.add; split <;> simp_all, e, ← hj]
       simp
      case cfalse2 =>
       intro u hu; simp only [List.mem_cons, List.not_mem_nil, or_false] at hu
       rcases hu with rfl | rfl | rfl | rfl | rfl <;> rfl
      case cfalse3 => unfold maxLen; omega
      case cfalse4 => omega
      case cfalse5 => exact HSZ.out
      intro v' w9 h1 h2 h3; obtain ⟨g', cap', rfl⟩ := q_row_succ h1; have h4 := HS9.out.fin h2 h1; have HV9 := Zh h4.2; have d7 := h4.1.cell 7; have e7 := h4.1.frozen 7; clear h1 h2 h3 h4
      go_wp2
      go_roundw
      case rel => exact ⟨acc.length + 1, acc ++ [⟨false, tu, tc, ck, cv⟩], _, p4, by omega, by go_num, by rw [List.length_append]; rfl, by rw [opsC_snoc, List.length_append]; exact HV9.out, HTN.out⟩
      case measure => simp [intOf]; omega
   ·
    obtain rfl : acc.length = N := by omega
    have hltI : ¬ (acc.length : Int) < (acc.length : Int) := by omega
    have HTA := Zh (show T = (acc, q) by rw [HTE.out, Nat.sub_self]; simp [opsX]); rw [HTA.out] at HD HC; simp only at HD HC; obtain ⟨A7, cap7, b7, rfl, hI⟩ := HV.out.dr; have HI := Zh hI; have rE := HI.out.rr.c2; clear hI HV
    by_cases he : q.e = 0
    ·
     have heB : (q.e != 0) = false := by simp [he]
     go_wp2_with fail
     refine (left_r HI.out.rr HLL.out).mono ?_; rintro _ y20 ⟨rfl, hb⟩; have HK := Zh (HI.out.keep hb); clear hb
     by_cases hp : q.p = l.length
     ·
      have hpB : ((l.length : Int) - ((q.p : Nat) : Int) != 0) = false := by simp; omega
      have HD2 := Zh (show decQ 7 l = if c ≠ 0 then (rqZ, c) else ((⟨7, bE, v1, bE, bE, 0, 0, acc, 0, 0, 0⟩ : Rq), 0) by rw [HD.out, if_neg (by simp [he, hp])]); obtain ⟨s0, s1, s2, s3, s4, s5, s6, s7, s8, s9, s10⟩ := cs11 HK.out.bx
      go_wp2_with fail
      refine (HC.out _ _ _ _ HK.out.js).mono ?_; rintro _ y21 ⟨rfl, hb⟩; have HJ := Zh (HK.out.keep hb); clear hb; obtain ⟨rc0, rf0, rc1, rf1, rc2, rf2, rc3, rf3, rc4, rf4, rc5, rf5, rc6, rf6, rc7, rf7, rc8, rf8, rc9, rf9, rc10, rf10⟩ := cz11 HJ.out.rb; obtain ⟨t0, t1, t2, t3, t4, t5, t6, t7, t8, t9, t10⟩ := cs11 HJ.out.bx
      by_cases hz : c = 0
      ·
       have H0 := Zh (show decQ 7 l = ((⟨7, bE, v1, bE, bE, 0, 0, acc, 0, 0, 0⟩ : Rq), 0) by rw [HD2.out, if_neg (by simpa using hz)]); have hz2 : (c != 0) = false := by simpa using hz
       go_wp2
       refine rdec_out rfl (g := w.heap.size) rfl rfl (put11 HJ.out.rb (.int .i64 7) (.string ⟨#[]⟩) (.string v1) (.string ⟨#[]⟩) (.string ⟨#[]⟩) (.int .i64 0) (.int .i64 0) (.slice A7 acc.length cap7) (.int .i64 0) (.int .i64 0) (.int .i64 0)) ?_; rw [H0.out]; refine ⟨_, _, _, rfl, HJ.out.js.blk (Nat.le_of_eq (size11 ..).symm) (fun h => heap11 (fun e => ?_) (.int .i64 7) (.string ⟨#[]⟩) (.string v1) (.string ⟨#[]⟩) (.string ⟨#[]⟩) (.int .i64 0) (.int .i64 0) (.slice A7 acc.length cap7) (.int .i64 0) (.int .i64 0) (.int .i64 0)), fun h => ?_, bel11 HJ.out.bel (Nat.le_refl _) (.int .i64 7) (.string ⟨#[]⟩) (.string v1) (.string ⟨#[]⟩) (.string ⟨#[]⟩) (.int .i64 0) (.int .i64 0) (.slice A7 acc.length cap7) (.int .i64 0) (.int .i64 0) (.int .i64 0)⟩
       ·
        have := HJ.out.hb h; omega
       ·
        have := HJ.out.hb h; omega
      ·
       have H0 := Zh (show decQ 7 l = (rqZ, c) by rw [HD2.out, if_pos hz]); have hz2 : (c != 0) = true := by simpa using hz
       go_wp2
       exact rdec_out rfl (g := w.heap.size) rfl rfl (put11 HJ.out.rb _ _ _ _ _ _ _ _ _ _ _) (decQ_none H0.out (bel11 HJ.out.bel (Nat.le_refl _) _ _ _ _ _ _ _ _ _ _ _))
     ·
      have hpB : ((l.length : Int) - ((q.p : Nat) : Int) != 0) = true := by simp; omega
      have H0 := Zh (show decQ 7 l = (rqZ, 1) by rw [HD.out, if_pos (by simp [hp])]); obtain ⟨rc0, rf0, rc1, rf1, rc2, rf2, rc3, rf3, rc4, rf4, rc5, rf5, rc6, rf6, rc7, rf7, rc8, rf8, rc9, rf9, rc10, rf10⟩ := cz11 HK.out.rb
      go_wp2
      exact rdec_out rfl (g := w.heap.size) rfl rfl (put11 HK.out.rb _ _ _ _ _ _ _ _ _ _ _) (decQ_none H0.out (bel11 HK.out.bel (Nat.le_refl _) _ _ _ _ _ _ _ _ _ _ _))
    ·
     have heB : (q.e != 0) = true := by simp [he]
     have H0 := Zh (show decQ 7 l = (rqZ, 1) by rw [HD.out, if_pos (by simp [he])]); obtain ⟨rc0, rf0, rc1, rf1, rc2, rf2, rc3, rf3, rc4, rf4, rc5, rf5, rc6, rf6, rc7, rf7, rc8, rf8, rc9, rf9, rc10, rf10⟩ := cz11 HI.out.rb
     go_wp2
     exact rdec_out rfl (g := w.heap.size) rfl rfl (put11 HI.out.rb _ _ _ _ _ _ _ _ _ _ _) (decQ_none H0.out (bel11 HI.out.bel (Nat.le_refl _) _ _ _ _ _ _ _ _ _ _ _))
end
section
variable {w : World} {A : Option Addr} {len cap b off : Nat} {l : List UInt8}
theorem rdec_any (h : Byt w A l.length cap b off l) (hl : l.length ≤ 1000000) (k : Int) : Calls Tryz.prog 13 #[.int .i64 k, .slice A l.length cap] w (DecQ w (decQ k l)) := by
 cases hk : kindB k with
 | false => exact rdec_no k hk _
 | true =>
  rcases kind_cases hk with rfl | rfl | rfl | rfl | rfl | rfl | rfl | rfl | rfl | rfl | rfl
  ·
   exact rdec_k1 h hl
  ·
   exact rdec_k2 h hl
  ·
   exact rdec_k3 h hl
  ·
   exact rdec_k4 h hl
  ·
   exact rdec_k5 h hl
  ·
   exact rdec_k6 h hl
  ·
   exact rdec_k7 h hl
  ·
   exact rdec_k8 h hl
  ·
   exact rdec_k9 h hl
  ·
   exact rdec_k10 h hl
  ·
   exact rdec_k11 h hl
end
end Go.Proofs.YtphijnkiiokieaaGreatDoor
