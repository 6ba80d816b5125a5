/- Texts of one proof, joined. -/
import Derived.Test.YtphijnkiiokieaaGreatDoorZbi
set_option linter.unusedVariables false
set_option linter.unusedSimpArgs false
set_option maxRecDepth 100000
set_option maxHeartbeats 80000000
namespace Go.Proofs.YtphijnkiiokieaaGreatDoor
open Go.RowKit
open Go.Lib hiding intOf
section
variable {w : World} {A : Option Addr} {len cap b off : Nat} {l : List UInt8}
theorem rdec_k6 (h : Byt w A l.length cap b off l) (hl : l.length ≤ 1000000) : Calls Tryz.prog 13 #[.int .i64 6, .slice A l.length cap] w (DecQ w (decQ 6 l)) := by
 have hk : kindB 6 = true := rfl; have HDR := Zh (decQ_ref l hk); obtain ⟨⟨v1, q1⟩, e1⟩ : ∃ z, textP 20000 l ⟨0, 0⟩ = z := ⟨_, rfl⟩; have HF1 := Zh (fun W (h : Rr W (w.heap.size + 1) A cap b off l (⟨0, 0⟩ : Ps).p (⟨0, 0⟩ : Ps).e) => (show Calls Tryz.prog 37 #[.pointer (some ⟨w.heap.size + 1, 0, none⟩), .int .i64 20000] W _ from xtext_any h hl 20000 (by decide))); rw [e1] at HF1; simp only at HF1; have z1 : v1.size ≤ 20000 := by have := textP_size l ⟨0, 0⟩; rw [e1] at this; exact this
 obtain ⟨⟨v2, q2⟩, e2⟩ : ∃ z, textP 20000 l q1 = z := ⟨_, rfl⟩; have HF2 := Zh (fun W (h : Rr W (w.heap.size + 1) A cap b off l (q1 : Ps).p (q1 : Ps).e) => (show Calls Tryz.prog 37 #[.pointer (some ⟨w.heap.size + 1, 0, none⟩), .int .i64 20000] W _ from xtext_any h hl 20000 (by decide))); rw [e2] at HF2; simp only at HF2; have z2 : v2.size ≤ 20000 := by have := textP_size l q1; rw [e2] at this; exact this
 have eR : refQ 6 l = ((⟨6, bE, v1, v2, bE, 0, 0, [], 0, 0, 0⟩ : Rq), q2) := by
  have e0 : refQ 6 l = (⟨6, bE, (textP 20000 l ⟨0, 0⟩).1, (textP 20000 l (textP 20000 l ⟨0, 0⟩).2).1, bE, 0, 0, [], 0, 0, 0⟩, (textP 20000 l (textP 20000 l ⟨0, 0⟩).2).2) := by
   unfold refQ
   simp only [show hT 6 = false by decide, show hC 6 = true by decide, show hU 6 = true by decide, show hK 6 = false by decide, show hN 6 = false by decide, show hO 6 = false by decide, show hW 6 = false by decide, show hM 6 = false by decide, show hI 6 = false by decide]
   rfl
  rw [e0]; simp only [e1]; simp only [e2]
 rw [eR] at HDR; simp only at HDR; have hsz : SzQ (⟨6, bE, v1, v2, bE, 0, 0, [], 0, 0, 0⟩ : Rq) := ⟨(by show ByteArray.size bE ≤ _; decide), (by show ByteArray.size v1 ≤ _; omega), (by show ByteArray.size v2 ≤ _; omega), (by show ByteArray.size bE ≤ _; decide), (fun o ho => nomatch ho), (by simp)⟩; obtain ⟨c, hc⟩ : ∃ c, checkQ (⟨6, bE, v1, v2, bE, 0, 0, [], 0, 0, 0⟩ : Rq) = c := ⟨_, rfl⟩; rw [hc] at HDR; have HC := Zh (fun W A2 cap2 b2 (h : Ops W A2 0 cap2 b2 0 []) => hc ▸ rcheck_any (q := (⟨6, bE, v1, v2, bE, 0, 0, [], 0, 0, 0⟩ : Rq)) h hsz); have HLL := Zh hl; have hlI : (l.length : Int) ≤ 1000000 := by omega
 have HD0 := Zh (Dr.start h #[.int .i64 6, .string ⟨#[]⟩, .string ⟨#[]⟩, .string ⟨#[]⟩, .string ⟨#[]⟩, .int .i64 0, .int .i64 0, .slice none 0 0, .int .i64 0, .int .i64 0, .int .i64 0]); clear eR hsz hc h hk e1 e2
 go_enter Tryz.func13, Tryz.ntmps13
 go_wp2_with fail
 refine (HF1.out _ HD0.out.rr).mono ?_; rintro _ y1 ⟨rfl, h1, h2⟩; have HE1 := Zh (HD0.out.call h1 h2); have g1_2 := HE1.out.bx.cell 2; have f1_2 := HE1.out.bx.frozen 2; have HD1 := Zh (HE1.out.set 2 (.string v1)); clear h1 h2
 go_wp2_with fail
 refine (HF2.out _ HD1.out.rr).mono ?_; rintro _ y2 ⟨rfl, h1, h2⟩; have HE2 := Zh (HD1.out.call h1 h2); have g2_3 := HE2.out.bx.cell 3; have f2_3 := HE2.out.bx.frozen 3; have HD2 := Zh (HE2.out.set 3 (.string v2)); clear h1 h2; have rE := HD2.out.rr.c2
 by_cases he : (q2 : Ps).e = 0
 ·
  skip
  have heB : ((q2 : Ps).e != 0) = false := by simp [he]
  go_wp2_with fail
  refine (left_r HD2.out.rr HLL.out).mono ?_; rintro _ y20 ⟨rfl, hb⟩; have HK := Zh (HD2.out.keep hb); clear hb
  by_cases hp : (q2 : Ps).p = l.length
  ·
   have hpB : ((l.length : Int) - (((q2 : Ps).p : Nat) : Int) != 0) = false := by simp; omega
   have HD2 := Zh (show decQ 6 l = if c ≠ 0 then (rqZ, c) else ((⟨6, bE, v1, v2, bE, 0, 0, [], 0, 0, 0⟩ : Rq), 0) by rw [HDR.out, if_neg (by simp [he, hp])]); obtain ⟨s0, s1, s2, s3, s4, s5, s6, s7, s8, s9, s10⟩ := cs11 HK.out.bx
   go_wp2_with fail
   refine (HC.out _ _ _ _ HK.out.js).mono ?_; rintro _ y21 ⟨rfl, hb⟩; have HJ := Zh (HK.out.keep hb); clear hb; obtain ⟨rc0, rf0, rc1, rf1, rc2, rf2, rc3, rf3, rc4, rf4, rc5, rf5, rc6, rf6, rc7, rf7, rc8, rf8, rc9, rf9, rc10, rf10⟩ := cz11 HJ.out.rb; obtain ⟨t0, t1, t2, t3, t4, t5, t6, t7, t8, t9, t10⟩ := cs11 HJ.out.bx
   by_cases hz : c = 0
   ·
    have H0 := Zh (show decQ 6 l = ((⟨6, bE, v1, v2, bE, 0, 0, [], 0, 0, 0⟩ : Rq), 0) by rw [HD2.out, if_neg (by simpa using hz)]); have hz2 : (c != 0) = false := by simpa using hz
    go_wp2
    refine rdec_out rfl (g := w.heap.size) rfl rfl (put11 HJ.out.rb (.int .i64 6) (.string ⟨#[]⟩) (.string v1) (.string v2) (.string ⟨#[]⟩) (.int .i64 0) (.int .i64 0) (.slice none 0 0) (.int .i64 0) (.int .i64 0) (.int .i64 0)) ?_; rw [H0.out]
    exact ⟨_, _, _, rfl, HJ.out.js.blk (Nat.le_of_eq (size11 ..).symm) (fun h => absurd h (by simp)), fun h => absurd h (by simp), bel11 HJ.out.bel (Nat.le_refl _) (.int .i64 6) (.string ⟨#[]⟩) (.string v1) (.string v2) (.string ⟨#[]⟩) (.int .i64 0) (.int .i64 0) (.slice none 0 0) (.int .i64 0) (.int .i64 0) (.int .i64 0)⟩
   ·
    have H0 := Zh (show decQ 6 l = (rqZ, c) by rw [HD2.out, if_pos hz]); have hz2 : (c != 0) = true := by simpa using hz
    go_wp2
    exact rdec_out rfl (g := w.heap.size) rfl rfl (put11 HJ.out.rb _ _ _ _ _ _ _ _ _ _ _) (decQ_none H0.out (bel11 HJ.out.bel (Nat.le_refl _) _ _ _ _ _ _ _ _ _ _ _))
  ·
   have hpB : ((l.length : Int) - (((q2 : Ps).p : Nat) : Int) != 0) = true := by simp; omega
   have H0 := Zh (show decQ 6 l = (rqZ, 1) by rw [HDR.out, if_pos (by simp [hp])]); obtain ⟨rc0, rf0, rc1, rf1, rc2, rf2, rc3, rf3, rc4, rf4, rc5, rf5, rc6, rf6, rc7, rf7, rc8, rf8, rc9, rf9, rc10, rf10⟩ := cz11 HK.out.rb
   go_wp2
   exact rdec_out rfl (g := w.heap.size) rfl rfl (put11 HK.out.rb _ _ _ _ _ _ _ _ _ _ _) (decQ_none H0.out (bel11 HK.out.bel (Nat.le_refl _) _ _ _ _ _ _ _ _ _ _ _))
 ·
  have heB : ((q2 : Ps).e != 0) = true := by simp [he]
  have H0 := Zh (show decQ 6 l = (rqZ, 1) by rw [HDR.out, if_pos (by simp [he])]); obtain ⟨rc0, rf0, rc1, rf1, rc2, rf2, rc3, rf3, rc4, rf4, rc5, rf5, rc6, rf6, rc7, rf7, rc8, rf8, rc9, rf9, rc10, rf10⟩ := cz11 HD2.out.rb
  go_wp2
  exact rdec_out rfl (g := w.heap.size) rfl rfl (put11 HD2.out.rb _ _ _ _ _ _ _ _ _ _ _) (decQ_none H0.out (bel11 HD2.out.bel (Nat.le_refl _) _ _ _ _ _ _ _ _ _ _ _))
theorem rdec_k8 (h : Byt w A l.length cap b off l) (hl : l.length ≤ 1000000) : Calls Tryz.prog 13 #[.int .i64 8, .slice A l.length cap] w (DecQ w (decQ 8 l)) := by
 have hk : kindB 8 = true := rfl; have HDR := Zh (decQ_ref l hk); obtain ⟨⟨v1, q1⟩, e1⟩ : ∃ z, textP 20000 l ⟨0, 0⟩ = z := ⟨_, rfl⟩; have HF1 := Zh (fun W (h : Rr W (w.heap.size + 1) A cap b off l (⟨0, 0⟩ : Ps).p (⟨0, 0⟩ : Ps).e) => (show Calls Tryz.prog 37 #[.pointer (some ⟨w.heap.size + 1, 0, none⟩), .int .i64 20000] W _ from xtext_any h hl 20000 (by decide))); rw [e1] at HF1; simp only at HF1; have z1 : v1.size ≤ 20000 := by have := textP_size l ⟨0, 0⟩; rw [e1] at this; exact this
 obtain ⟨⟨v2, q2⟩, e2⟩ : ∃ z, numP l q1 = z := ⟨_, rfl⟩; have HF2 := Zh (fun W (h : Rr W (w.heap.size + 1) A cap b off l (q1 : Ps).p (q1 : Ps).e) => xnum_any h hl); rw [e2] at HF2; simp only at HF2; obtain ⟨⟨v3, q3⟩, e3⟩ : ∃ z, smX l q2 = z := ⟨_, rfl⟩; have HF3 := Zh (fun W (h : Rr W (w.heap.size + 1) A cap b off l (q2 : Ps).p (q2 : Ps).e) => (show Calls Tryz.prog 39 #[.pointer (some ⟨w.heap.size + 1, 0, none⟩)] W fun r w' => r = .returned (.int .i64 (smX l q2).1) ∧ Rr w' (w.heap.size + 1) A cap b off l (smX l q2).2.p (smX l q2).2.e ∧ Tg W w' (w.heap.size + 1) from xsmall_any h hl)); rw [e3] at HF3; simp only at HF3; have eR : refQ 8 l = ((⟨8, bE, v1, bE, bE, 0, 0, [], v2, v3, 0⟩ : Rq), q3) := by
  have e0 : refQ 8 l = (⟨8, bE, (textP 20000 l ⟨0, 0⟩).1, bE, bE, 0, 0, [], (numP l (textP 20000 l ⟨0, 0⟩).2).1, (smX l (numP l (textP 20000 l ⟨0, 0⟩).2).2).1, 0⟩, (smX l (numP l (textP 20000 l ⟨0, 0⟩).2).2).2) := by
   unfold refQ
   simp only [show hT 8 = false by decide, show hC 8 = true by decide, show hU 8 = false by decide, show hK 8 = false by decide, show hN 8 = false by decide, show hO 8 = false by decide, show hW 8 = true by decide, show hM 8 = true by decide, show hI 8 = false by decide]
   rfl
  rw [e0]; simp only [e1]; simp only [e2]; simp only [e3]
 rw [eR] at HDR; simp only at HDR; have hsz : SzQ (⟨8, bE, v1, bE, bE, 0, 0, [], v2, v3, 0⟩ : Rq) := ⟨(by show ByteArray.size bE ≤ _; decide), (by show ByteArray.size v1 ≤ _; omega), (by show ByteArray.size bE ≤ _; decide), (by show ByteArray.size bE ≤ _; decide), (fun o ho => nomatch ho), (by simp)⟩; obtain ⟨c, hc⟩ : ∃ c, checkQ (⟨8, bE, v1, bE, bE, 0, 0, [], v2, v3, 0⟩ : Rq) = c := ⟨_, rfl⟩; rw [hc] at HDR; have HC := Zh (fun W A2 cap2 b2 (h : Ops W A2 0 cap2 b2 0 []) => hc ▸ rcheck_any (q := (⟨8, bE, v1, bE, bE, 0, 0, [], v2, v3, 0⟩ : Rq)) h hsz); have HLL := Zh hl; have hlI : (l.length : Int) ≤ 1000000 := by omega
 have HD0 := Zh (Dr.start h #[.int .i64 8, .string ⟨#[]⟩, .string ⟨#[]⟩, .string ⟨#[]⟩, .string ⟨#[]⟩, .int .i64 0, .int .i64 0, .slice none 0 0, .int .i64 0, .int .i64 0, .int .i64 0]); clear eR hsz hc h hk e1 e2 e3
 go_enter Tryz.func13, Tryz.ntmps13
 go_wp2_with fail
 refine (HF1.out _ HD0.out.rr).mono ?_; rintro _ y1 ⟨rfl, h1, h2⟩; have HE1 := Zh (HD0.out.call h1 h2); have g1_2 := HE1.out.bx.cell 2; have f1_2 := HE1.out.bx.frozen 2; have HD1 := Zh (HE1.out.set 2 (.string v1)); clear h1 h2
 go_wp2_with fail
 refine (HF2.out _ HD1.out.rr).mono ?_; rintro _ y2 ⟨rfl, h1, h2⟩; have HE2 := Zh (HD1.out.call h1 h2); have g2_8 := HE2.out.bx.cell 8; have f2_8 := HE2.out.bx.frozen 8; have HD2 := Zh (HE2.out.set 8 (.int .i64 v2)); clear h1 h2
 go_wp2_with fail
 refine (HF3.out _ HD2.out.rr).mono ?_; rintro _ y3 ⟨rfl, h1, h2⟩; have HE3 := Zh (HD2.out.call h1 h2); have g3_9 := HE3.out.bx.cell 9; have f3_9 := HE3.out.bx.frozen 9; have HD3 := Zh (HE3.out.set 9 (.int .i64 v3)); clear h1 h2; have rE := HD3.out.rr.c2
 by_cases he : (q3 : Ps).e = 0
 ·
  skip
  have heB : ((q3 : Ps).e != 0) = false := by simp [he]
  go_wp2_with fail
  refine (left_r HD3.out.rr HLL.out).mono ?_; rintro _ y20 ⟨rfl, hb⟩; have HK := Zh (HD3.out.keep hb); clear hb
  by_cases hp : (q3 : Ps).p = l.length
  ·
   have hpB : ((l.length : Int) - (((q3 : Ps).p : Nat) : Int) != 0) = false := by simp; omega
   have HD2 := Zh (show decQ 8 l = if c ≠ 0 then (rqZ, c) else ((⟨8, bE, v1, bE, bE, 0, 0, [], v2, v3, 0⟩ : Rq), 0) by rw [HDR.out, if_neg (by simp [he, hp])]); obtain ⟨s0, s1, s2, s3, s4, s5, s6, s7, s8, s9, s10⟩ := cs11 HK.out.bx
   go_wp2_with fail
   refine (HC.out _ _ _ _ HK.out.js).mono ?_; rintro _ y21 ⟨rfl, hb⟩; have HJ := Zh (HK.out.keep hb); clear hb; obtain ⟨rc0, rf0, rc1, rf1, rc2, rf2, rc3, rf3, rc4, rf4, rc5, rf5, rc6, rf6, rc7, rf7, rc8, rf8, rc9, rf9, rc10, rf10⟩ := cz11 HJ.out.rb; obtain ⟨t0, t1, t2, t3, t4, t5, t6, t7, t8, t9, t10⟩ := cs11 HJ.out.bx
   by_cases hz : c = 0
   ·
    have H0 := Zh (show decQ 8 l = ((⟨8, bE, v1, bE, bE, 0, 0, [], v2, v3, 0⟩ : Rq), 0) by rw [HD2.out, if_neg (by simpa using hz)]); have hz2 : (c != 0) = false := by simpa using hz
    go_wp2
    refine rdec_out rfl (g := w.heap.size) rfl rfl (put11 HJ.out.rb (.int .i64 8) (.string ⟨#[]⟩) (.string v1) (.string ⟨#[]⟩) (.string ⟨#[]⟩) (.int .i64 0) (.int .i64 0) (.slice none 0 0) (.int .i64 v2) (.int .i64 v3) (.int .i64 0)) ?_; rw [H0.out]
    exact ⟨_, _, _, rfl, HJ.out.js.blk (Nat.le_of_eq (size11 ..).symm) (fun h => absurd h (by simp)), fun h => absurd h (by simp), bel11 HJ.out.bel (Nat.le_refl _) (.int .i64 8) (.string ⟨#[]⟩) (.string v1) (.string ⟨#[]⟩) (.string ⟨#[]⟩) (.int .i64 0) (.int .i64 0) (.slice none 0 0) (.int .i64 v2) (.int .i64 v3) (.int .i64 0)⟩
   ·
    have H0 := Zh (show decQ 8 l = (rqZ, c) by rw [HD2.out, if_pos hz]); have hz2 : (c != 0) = true := by simpa using hz
    go_wp2
    exact rdec_out rfl (g := w.heap.size) rfl rfl (put11 HJ.out.rb _ _ _ _ _ _ _ _ _ _ _) (decQ_none H0.out (bel11 HJ.out.bel (Nat.le_refl _) _ _ _ _ _ _ _ _ _ _ _))
  ·
   have hpB : ((l.length : Int) - (((q3 : Ps).p : Nat) : Int) != 0) = true := by simp; omega
   have H0 := Zh (show decQ 8 l = (rqZ, 1) by rw [HDR.out, if_pos (by simp [hp])]); obtain ⟨rc0, rf0, rc1, rf1, rc2, rf2, rc3, rf3, rc4, rf4, rc5, rf5, rc6, rf6, rc7, rf7, rc8, rf8, rc9, rf9, rc10, rf10⟩ := cz11 HK.out.rb
   go_wp2
   exact rdec_out rfl (g := w.heap.size) rfl rfl (put11 HK.out.rb _ _ _ _ _ _ _ _ _ _ _) (decQ_none H0.out (bel11 HK.out.bel (Nat.le_refl _) _ _ _ _ _ _ _ _ _ _ _))
 ·
  have heB : ((q3 : Ps).e != 0) = true := by simp [he]
  have H0 := Zh (show decQ 8 l = (rqZ, 1) by rw [HDR.out, if_pos (by simp [he])]); obtain ⟨rc0, rf0, rc1, rf1, rc2, rf2, rc3, rf3, rc4, rf4, rc5, rf5, rc6, rf6, rc7, rf7, rc8, rf8, rc9, rf9, rc10, rf10⟩ := cz11 HD3.out.rb
  go_wp2
  exact rdec_out rfl (g := w.heap.size) rfl rfl (put11 HD3.out.rb _ _ _ _ _ _ _ _ _ _ _) (decQ_none H0.out (bel11 HD3.out.bel (Nat.le_refl _) _ _ _ _ _ _ _ _ _ _ _))
theorem rdec_k9 (h : Byt w A l.length cap b off l) (hl : l.length ≤ 1000000) : Calls Tryz.prog 13 #[.int .i64 9, .slice A l.length cap] w (DecQ w (decQ 9 l)) := by
 have hk : kindB 9 = true := rfl; have HDR := Zh (decQ_ref l hk); obtain ⟨⟨v1, q1⟩, e1⟩ : ∃ z, textP 20000 l ⟨0, 0⟩ = z := ⟨_, rfl⟩; have HF1 := Zh (fun W (h : Rr W (w.heap.size + 1) A cap b off l (⟨0, 0⟩ : Ps).p (⟨0, 0⟩ : Ps).e) => (show Calls Tryz.prog 37 #[.pointer (some ⟨w.heap.size + 1, 0, none⟩), .int .i64 20000] W _ from xtext_any h hl 20000 (by decide))); rw [e1] at HF1; simp only at HF1; have z1 : v1.size ≤ 20000 := by have := textP_size l ⟨0, 0⟩; rw [e1] at this; exact this
 obtain ⟨⟨v2, q2⟩, e2⟩ : ∃ z, numP l q1 = z := ⟨_, rfl⟩; have HF2 := Zh (fun W (h : Rr W (w.heap.size + 1) A cap b off l (q1 : Ps).p (q1 : Ps).e) => xnum_any h hl); rw [e2] at HF2; simp only at HF2; obtain ⟨⟨v3, q3⟩, e3⟩ : ∃ z, smX l q2 = z := ⟨_, rfl⟩; have HF3 := Zh (fun W (h : Rr W (w.heap.size + 1) A cap b off l (q2 : Ps).p (q2 : Ps).e) => (show Calls Tryz.prog 39 #[.pointer (some ⟨w.heap.size + 1, 0, none⟩)] W fun r w' => r = .returned (.int .i64 (smX l q2).1) ∧ Rr w' (w.heap.size + 1) A cap b off l (smX l q2).2.p (smX l q2).2.e ∧ Tg W w' (w.heap.size + 1) from xsmall_any h hl)); rw [e3] at HF3; simp only at HF3; have eR : refQ 9 l = ((⟨9, bE, v1, bE, bE, 0, 0, [], v2, 0, v3⟩ : Rq), q3) := by
  have e0 : refQ 9 l = (⟨9, bE, (textP 20000 l ⟨0, 0⟩).1, bE, bE, 0, 0, [], (numP l (textP 20000 l ⟨0, 0⟩).2).1, 0, (smX l (numP l (textP 20000 l ⟨0, 0⟩).2).2).1⟩, (smX l (numP l (textP 20000 l ⟨0, 0⟩).2).2).2) := by
   unfold refQ
   simp only [show hT 9 = false by decide, show hC 9 = true by decide, show hU 9 = false by decide, show hK 9 = false by decide, show hN 9 = false by decide, show hO 9 = false by decide, show hW 9 = true by decide, show hM 9 = false by decide, show hI 9 = true by decide]
   rfl
  rw [e0]; simp only [e1]; simp only [e2]; simp only [e3]
 rw [eR] at HDR; simp only at HDR; have hsz : SzQ (⟨9, bE, v1, bE, bE, 0, 0, [], v2, 0, v3⟩ : Rq) := ⟨(by show ByteArray.size bE ≤ _; decide), (by show ByteArray.size v1 ≤ _; omega), (by show ByteArray.size bE ≤ _; decide), (by show ByteArray.size bE ≤ _; decide), (fun o ho => nomatch ho), (by simp)⟩; obtain ⟨c, hc⟩ : ∃ c, checkQ (⟨9, bE, v1, bE, bE, 0, 0, [], v2, 0, v3⟩ : Rq) = c := ⟨_, rfl⟩; rw [hc] at HDR; have HC := Zh (fun W A2 cap2 b2 (h : Ops W A2 0 cap2 b2 0 []) => hc ▸ rcheck_any (q := (⟨9, bE, v1, bE, bE, 0, 0, [], v2, 0, v3⟩ : Rq)) h hsz); have HLL := Zh hl; have hlI : (l.length : Int) ≤ 1000000 := by omega
 have HD0 := Zh (Dr.start h #[.int .i64 9, .string ⟨#[]⟩, .string ⟨#[]⟩, .string ⟨#[]⟩, .string ⟨#[]⟩, .int .i64 0, .int .i64 0, .slice none 0 0, .int .i64 0, .int .i64 0, .int .i64 0]); clear eR hsz hc h hk e1 e2 e3
 go_enter Tryz.func13, Tryz.ntmps13
 go_wp2_with fail
 refine (HF1.out _ HD0.out.rr).mono ?_; rintro _ y1 ⟨rfl, h1, h2⟩; have HE1 := Zh (HD0.out.call h1 h2); have g1_2 := HE1.out.bx.cell 2; have f1_2 := HE1.out.bx.frozen 2; have HD1 := Zh (HE1.out.set 2 (.string v1)); clear h1 h2
 go_wp2_with fail
 refine (HF2.out _ HD1.out.rr).mono ?_; rintro _ y2 ⟨rfl, h1, h2⟩; have HE2 := Zh (HD1.out.call h1 h2); have g2_8 := HE2.out.bx.cell 8; have f2_8 := HE2.out.bx.frozen 8; have HD2 := Zh (HE2.out.set 8 (.int .i64 v2)); clear h1 h2
 go_wp2_with fail
 refine (HF3.out _ HD2.out.rr).mono ?_; rintro _ y3 ⟨rfl, h1, h2⟩; have HE3 := Zh (HD2.out.call h1 h2); have g3_10 := HE3.out.bx.cell 10; have f3_10 := HE3.out.bx.frozen 10; have HD3 := Zh (HE3.out.set 10 (.int .i64 v3)); clear h1 h2; have rE := HD3.out.rr.c2
 by_cases he : (q3 : Ps).e = 0
 ·
  skip
  have heB : ((q3 : Ps).e != 0) = false := by simp [he]
  go_wp2_with fail
  refine (left_r HD3.out.rr HLL.out).mono ?_; rintro _ y20 ⟨rfl, hb⟩; have HK := Zh (HD3.out.keep hb); clear hb
  by_cases hp : (q3 : Ps).p = l.length
  ·
   have hpB : ((l.length : Int) - (((q3 : Ps).p : Nat) : Int) != 0) = false := by simp; omega
   have HD2 := Zh (show decQ 9 l = if c ≠ 0 then (rqZ, c) else ((⟨9, bE, v1, bE, bE, 0, 0, [], v2, 0, v3⟩ : Rq), 0) by rw [HDR.out, if_neg (by simp [he, hp])]); obtain ⟨s0, s1, s2, s3, s4, s5, s6, s7, s8, s9, s10⟩ := cs11 HK.out.bx
   go_wp2_with fail
   refine (HC.out _ _ _ _ HK.out.js).mono ?_; rintro _ y21 ⟨rfl, hb⟩; have HJ := Zh (HK.out.keep hb); clear hb; obtain ⟨rc0, rf0, rc1, rf1, rc2, rf2, rc3, rf3, rc4, rf4, rc5, rf5, rc6, rf6, rc7, rf7, rc8, rf8, rc9, rf9, rc10, rf10⟩ := cz11 HJ.out.rb; obtain ⟨t0, t1, t2, t3, t4, t5, t6, t7, t8, t9, t10⟩ := cs11 HJ.out.bx
   by_cases hz : c = 0
   ·
    have H0 := Zh (show decQ 9 l = ((⟨9, bE, v1, bE, bE, 0, 0, [], v2, 0, v3⟩ : Rq), 0) by rw [HD2.out, if_neg (by simpa using hz)]); have hz2 : (c != 0) = false := by simpa using hz
    go_wp2
    refine rdec_out rfl (g := w.heap.size) rfl rfl (put11 HJ.out.rb (.int .i64 9) (.string ⟨#[]⟩) (.string v1) (.string ⟨#[]⟩) (.string ⟨#[]⟩) (.int .i64 0) (.int .i64 0) (.slice none 0 0) (.int .i64 v2) (.int .i64 0) (.int .i64 v3)) ?_; rw [H0.out]
    exact ⟨_, _, _, rfl, HJ.out.js.blk (Nat.le_of_eq (size11 ..).symm) (fun h => absurd h (by simp)), fun h => absurd h (by simp), bel11 HJ.out.bel (Nat.le_refl _) (.int .i64 9) (.string ⟨#[]⟩) (.string v1) (.string ⟨#[]⟩) (.string ⟨#[]⟩) (.int .i64 0) (.int .i64 0) (.slice none 0 0) (.int .i64 v2) (.int .i64 0) (.int .i64 v3)⟩
   ·
    have H0 := Zh (show decQ 9 l = (rqZ, c) by rw [HD2.out, if_pos hz]); have hz2 : (c != 0) = true := by simpa using hz
    go_wp2
    exact rdec_out rfl (g := w.heap.size) rfl rfl (put11 HJ.out.rb _ _ _ _ _ _ _ _ _ _ _) (decQ_none H0.out (bel11 HJ.out.bel (Nat.le_refl _) _ _ _ _ _ _ _ _ _ _ _))
  ·
   have hpB : ((l.length : Int) - (((q3 : Ps).p : Nat) : Int) != 0) = true := by simp; omega
   have H0 := Zh (show decQ 9 l = (rqZ, 1) by rw [HDR.out, if_pos (by simp [hp])]); obtain ⟨rc0, rf0, rc1, rf1, rc2, rf2, rc3, rf3, rc4, rf4, rc5, rf5, rc6, rf6, rc7, rf7, rc8, rf8, rc9, rf9, rc10, rf10⟩ := cz11 HK.out.rb
   go_wp2
   exact rdec_out rfl (g := w.heap.size) rfl rfl (put11 HK.out.rb _ _ _ _ _ _ _ _ _ _ _) (decQ_none H0.out (bel11 HK.out.bel (Nat.le_refl _) _ _ _ _ _ _ _ _ _ _ _))
 ·
  have heB : ((q3 : Ps).e != 0) = true := by simp [he]
  have H0 := Zh (show decQ 9 l = (rqZ, 1) by rw [HDR.out, if_pos (by simp [he])]); obtain ⟨rc0, rf0, rc1, rf1, rc2, rf2, rc3, rf3, rc4, rf4, rc5, rf5, rc6, rf6, rc7, rf7, rc8, rf8, rc9, rf9, rc10, rf10⟩ := cz11 HD3.out.rb
  go_wp2
  exact rdec_out rfl (g := w.heap.size) rfl rfl (put11 HD3.out.rb _ _ _ _ _ _ _ _ _ _ _) (decQ_none H0.out (bel11 HD3.out.bel (Nat.le_refl _) _ _ _ _ _ _ _ _ _ _ _))
end
section
variable {w : World} {A : Option Addr} {len cap b off : Nat} {l : List UInt8}
theorem rdec_no (k : Int) (hk : kindB k = false) (len' : Nat) : Calls Tryz.prog 13 #[.int .i64 k, .slice A len' cap] w (DecQ w (decQ k l)) := by
 have H0 := Zh (show decQ k l = (rqZ, 12) by unfold decQ; rw [if_pos hk]); have hk12 : k < 1 ∨ 11 < k := by
  unfold kindB at hk
  rw [Bool.and_eq_false_iff, decide_eq_false_iff_not, decide_eq_false_iff_not] at hk
  omega
 clear hk
 rcases hk12 with hk1 | hk2
 all_goals
  go_enter Tryz.func13, Tryz.ntmps13
  go_upto_region 1 with fail
  refine wp_world (fun W rb rbb => ?_) (Blk.new w _ _) ((Below.refl _ _).alloc (Nat.le_refl _) _); obtain ⟨rc0, rf0, rc1, rf1, rc2, rf2, rc3, rf3, rc4, rf4, rc5, rf5, rc6, rf6, rc7, rf7, rc8, rf8, rc9, rf9, rc10, rf10⟩ := cz11 rb; have HR1 := Zh rb; have HR2 := Zh rbb; clear rb rbb
  go_wp2
  exact rdec_out rfl (g := w.heap.size) rfl rfl (put11 HR1.out _ _ _ _ _ _ _ _ _ _ _) (decQ_none H0.out (bel11 HR2.out (Nat.le_refl _) _ _ _ _ _ _ _ _ _ _ _))
theorem rdec_k10 (h : Byt w A l.length cap b off l) (hl : l.length ≤ 1000000) : Calls Tryz.prog 13 #[.int .i64 10, .slice A l.length cap] w (DecQ w (decQ 10 l)) := by
 have HDR := Zh (show decQ 10 l = if l.length ≠ 0 then (rqZ, 1) else if checkQ (⟨10, bE, bE, bE, bE, 0, 0, [], 0, 0, 0⟩ : Rq) ≠ 0 then (rqZ, checkQ (⟨10, bE, bE, bE, bE, 0, 0, [], 0, 0, 0⟩ : Rq)) else ((⟨10, bE, bE, bE, bE, 0, 0, [], 0, 0, 0⟩ : Rq), 0) by
  rw [decQ_ref l (show kindB 10 = true from rfl), show refQ 10 l = ((⟨10, bE, bE, bE, bE, 0, 0, [], 0, 0, 0⟩ : Rq), ⟨0, 0⟩) from rfl]
  by_cases h0 : l.length = 0
  ·
   rw [h0]; simp
  ·
   rw [if_pos (by simp; omega), if_pos h0])
 have hsz : SzQ (⟨10, bE, bE, bE, bE, 0, 0, [], 0, 0, 0⟩ : Rq) := ⟨(by show ByteArray.size bE ≤ _; decide), (by show ByteArray.size bE ≤ _; decide), (by show ByteArray.size bE ≤ _; decide), (by show ByteArray.size bE ≤ _; decide), (fun o ho => nomatch ho), (by simp)⟩; obtain ⟨c, hc⟩ : ∃ c, checkQ (⟨10, bE, bE, bE, bE, 0, 0, [], 0, 0, 0⟩ : Rq) = c := ⟨_, rfl⟩; rw [hc] at HDR; have HC := Zh (fun W A2 cap2 b2 (h : Ops W A2 0 cap2 b2 0 []) => hc ▸ rcheck_any (q := (⟨10, bE, bE, bE, bE, 0, 0, [], 0, 0, 0⟩ : Rq)) h hsz); have HLL := Zh hl; have hlI : (l.length : Int) ≤ 1000000 := by omega
 have HD0 := Zh (Dr.start h #[.int .i64 10, .string ⟨#[]⟩, .string ⟨#[]⟩, .string ⟨#[]⟩, .string ⟨#[]⟩, .int .i64 0, .int .i64 0, .slice none 0 0, .int .i64 0, .int .i64 0, .int .i64 0]); clear hsz hc h
 go_enter Tryz.func13, Tryz.ntmps13
 go_wp2_with fail
 refine (left_r HD0.out.rr HLL.out).mono ?_; rintro _ y20 ⟨rfl, hb⟩; have HK := Zh (HD0.out.keep hb); clear hb
 by_cases hp : l.length = 0
 ·
  have hpB : ((l.length : Int) - ((0 : Nat) : Int) != 0) = false := by rw [show (l.length : Int) = 0 by omega]; rfl
  have hpC : ((l.length : Int) - 0 != 0) = false := by rw [show (l.length : Int) = 0 by omega]; rfl
  have hpD : ((l.length : Int) != 0) = false := by rw [show (l.length : Int) = 0 by omega]; rfl
  have HD2 := Zh (show decQ 10 l = if c ≠ 0 then (rqZ, c) else ((⟨10, bE, bE, bE, bE, 0, 0, [], 0, 0, 0⟩ : Rq), 0) by rw [HDR.out, if_neg (by simp [hp])]); clear hp; obtain ⟨s0, s1, s2, s3, s4, s5, s6, s7, s8, s9, s10⟩ := cs11 HK.out.bx
  go_wp2_with fail
  refine (HC.out _ _ _ _ HK.out.js).mono ?_; rintro _ y21 ⟨rfl, hb⟩; have HJ := Zh (HK.out.keep hb); clear hb; obtain ⟨rc0, rf0, rc1, rf1, rc2, rf2, rc3, rf3, rc4, rf4, rc5, rf5, rc6, rf6, rc7, rf7, rc8, rf8, rc9, rf9, rc10, rf10⟩ := cz11 HJ.out.rb; obtain ⟨t0, t1, t2, t3, t4, t5, t6, t7, t8, t9, t10⟩ := cs11 HJ.out.bx
  by_cases hz : c = 0
  ·
   have H0 := Zh (show decQ 10 l = ((⟨10, bE, bE, bE, bE, 0, 0, [], 0, 0, 0⟩ : Rq), 0) by rw [HD2.out, if_neg (by simpa using hz)]); have hz2 : (c != 0) = false := by simpa using hz
   go_wp2
   refine rdec_out rfl (g := w.heap.size) rfl rfl (put11 HJ.out.rb (.int .i64 10) (.string ⟨#[]⟩) (.string ⟨#[]⟩) (.string ⟨#[]⟩) (.string ⟨#[]⟩) (.int .i64 0) (.int .i64 0) (.slice none 0 0) (.int .i64 0) (.int .i64 0) (.int .i64 0)) ?_; rw [H0.out]
   exact ⟨_, _, _, rfl, HJ.out.js.blk (Nat.le_of_eq (size11 ..).symm) (fun h => absurd h (by simp)), fun h => absurd h (by simp), bel11 HJ.out.bel (Nat.le_refl _) (.int .i64 10) (.string ⟨#[]⟩) (.string ⟨#[]⟩) (.string ⟨#[]⟩) (.string ⟨#[]⟩) (.int .i64 0) (.int .i64 0) (.slice none 0 0) (.int .i64 0) (.int .i64 0) (.int .i64 0)⟩
  ·
   have H0 := Zh (show decQ 10 l = (rqZ, c) by rw [HD2.out, if_pos hz]); have hz2 : (c != 0) = true := by simpa using hz
   go_wp2
   exact rdec_out rfl (g := w.heap.size) rfl rfl (put11 HJ.out.rb _ _ _ _ _ _ _ _ _ _ _) (decQ_none H0.out (bel11 HJ.out.bel (Nat.le_refl _) _ _ _ _ _ _ _ _ _ _ _))
 ·
  have hpB : ((l.length : Int) - ((0 : Nat) : Int) != 0) = true := by rw [bne_iff_ne]; omega
  have hpC : ((l.length : Int) - 0 != 0) = true := by rw [bne_iff_ne]; omega
  have hpD : ((l.length : Int) != 0) = true := by rw [bne_iff_ne]; omega
  have H0 := Zh (show decQ 10 l = (rqZ, 1) by rw [HDR.out, if_pos hp]); obtain ⟨rc0, rf0, rc1, rf1, rc2, rf2, rc3, rf3, rc4, rf4, rc5, rf5, rc6, rf6, rc7, rf7, rc8, rf8, rc9, rf9, rc10, rf10⟩ := cz11 HK.out.rb
  go_wp2
  exact rdec_out rfl (g := w.heap.size) rfl rfl (put11 HK.out.rb _ _ _ _ _ _ _ _ _ _ _) (decQ_none H0.out (bel11 HK.out.bel (Nat.le_refl _) _ _ _ _ _ _ _ _ _ _ _))
theorem rdec_k11 (h : Byt w A l.length cap b off l) (hl : l.length ≤ 1000000) : Calls Tryz.prog 13 #[.int .i64 11, .slice A l.length cap] w (DecQ w (decQ 11 l)) := by
 have HDR := Zh (show decQ 11 l = if l.length ≠ 0 then (rqZ, 1) else if checkQ (⟨11, bE, bE, bE, bE, 0, 0, [], 0, 0, 0⟩ : Rq) ≠ 0 then (rqZ, checkQ (⟨11, bE, bE, bE, bE, 0, 0, [], 0, 0, 0⟩ : Rq)) else ((⟨11, bE, bE, bE, bE, 0, 0, [], 0, 0, 0⟩ : Rq), 0) by
  rw [decQ_ref l (show kindB 11 = true from rfl), show refQ 11 l = ((⟨11, bE, bE, bE, bE, 0, 0, [], 0, 0, 0⟩ : Rq), ⟨0, 0⟩) from rfl]
  by_cases h0 : l.length = 0
  ·
   rw [h0]; simp
  ·
   rw [if_pos (by simp; omega), if_pos h0])
 have hsz : SzQ (⟨11, bE, bE, bE, bE, 0, 0, [], 0, 0, 0⟩ : Rq) := ⟨(by show ByteArray.size bE ≤ _; decide), (by show ByteArray.size bE ≤ _; decide), (by show ByteArray.size bE ≤ _; decide), (by show ByteArray.size bE ≤ _; decide), (fun o ho => nomatch ho), (by simp)⟩; obtain ⟨c, hc⟩ : ∃ c, checkQ (⟨11, bE, bE, bE, bE, 0, 0, [], 0, 0, 0⟩ : Rq) = c := ⟨_, rfl⟩; rw [hc] at HDR; have HC := Zh (fun W A2 cap2 b2 (h : Ops W A2 0 cap2 b2 0 []) => hc ▸ rcheck_any (q := (⟨11, bE, bE, bE, bE, 0, 0, [], 0, 0, 0⟩ : Rq)) h hsz); have HLL := Zh hl; have hlI : (l.length : Int) ≤ 1000000 := by omega
 have HD0 := Zh (Dr.start h #[.int .i64 11, .string ⟨#[]⟩, .string ⟨#[]⟩, .string ⟨#[]⟩, .string ⟨#[]⟩, .int .i64 0, .int .i64 0, .slice none 0 0, .int .i64 0, .int .i64 0, .int .i64 0]); clear hsz hc h
 go_enter Tryz.func13, Tryz.ntmps13
 go_wp2_with fail
 refine (left_r HD0.out.rr HLL.out).mono ?_; rintro _ y20 ⟨rfl, hb⟩; have HK := Zh (HD0.out.keep hb); clear hb
 by_cases hp : l.length = 0
 ·
  have hpB : ((l.length : Int) - ((0 : Nat) : Int) != 0) = false := by rw [show (l.length : Int) = 0 by omega]; rfl
  have hpC : ((l.length : Int) - 0 != 0) = false := by rw [show (l.length : Int) = 0 by omega]; rfl
  have hpD : ((l.length : Int) != 0) = false := by rw [show (l.length : Int) = 0 by omega]; rfl
  have HD2 := Zh (show decQ 11 l = if c ≠ 0 then (rqZ, c) else ((⟨11, bE, bE, bE, bE, 0, 0, [], 0, 0, 0⟩ : Rq), 0) by rw [HDR.out, if_neg (by simp [hp])]); clear hp; obtain ⟨s0, s1, s2, s3, s4, s5, s6, s7, s8, s9, s10⟩ := cs11 HK.out.bx
  go_wp2_with fail
  refine (HC.out _ _ _ _ HK.out.js).mono ?_; rintro _ y21 ⟨rfl, hb⟩; have HJ := Zh (HK.out.keep hb); clear hb; obtain ⟨rc0, rf0, rc1, rf1, rc2, rf2, rc3, rf3, rc4, rf4, rc5, rf5, rc6, rf6, rc7, rf7, rc8, rf8, rc9, rf9, rc10, rf10⟩ := cz11 HJ.out.rb; obtain ⟨t0, t1, t2, t3, t4, t5, t6, t7, t8, t9, t10⟩ := cs11 HJ.out.bx
  by_cases hz : c = 0
  ·
   have H0 := Zh (show decQ 11 l = ((⟨11, bE, bE, bE, bE, 0, 0, [], 0, 0, 0⟩ : Rq), 0) by rw [HD2.out, if_neg (by simpa using hz)]); have hz2 : (c != 0) = false := by simpa using hz
   go_wp2
   refine rdec_out rfl (g := w.heap.size) rfl rfl (put11 HJ.out.rb (.int .i64 11) (.string ⟨#[]⟩) (.string ⟨#[]⟩) (.string ⟨#[]⟩) (.string ⟨#[]⟩) (.int .i64 0) (.int .i64 0) (.slice none 0 0) (.int .i64 0) (.int .i64 0) (.int .i64 0)) ?_; rw [H0.out]
   exact ⟨_, _, _, rfl, HJ.out.js.blk (Nat.le_of_eq (size11 ..).symm) (fun h => absurd h (by simp)), fun h => absurd h (by simp), bel11 HJ.out.bel (Nat.le_refl _) (.int .i64 11) (.string ⟨#[]⟩) (.string ⟨#[]⟩) (.string ⟨#[]⟩) (.string ⟨#[]⟩) (.int .i64 0) (.int .i64 0) (.slice none 0 0) (.int .i64 0) (.int .i64 0) (.int .i64 0)⟩
  ·
   have H0 := Zh (show decQ 11 l = (rqZ, c) by rw [HD2.out, if_pos hz]); have hz2 : (c != 0) = true := by simpa using hz
   go_wp2
   exact rdec_out rfl (g := w.heap.size) rfl rfl (put11 HJ.out.rb _ _ _ _ _ _ _ _ _ _ _) (decQ_none H0.out (bel11 HJ.out.bel (Nat.le_refl _) _ _ _ _ _ _ _ _ _ _ _))
 ·
  have hpB : ((l.length : Int) - ((0 : Nat) : Int) != 0) = true := by rw [bne_iff_ne]; omega
  have hpC : ((l.length : Int) - 0 != 0) = true := by rw [bne_iff_ne]; omega
  have hpD : ((l.length : Int) != 0) = true := by rw [bne_iff_ne]; omega
  have H0 := Zh (show decQ 11 l = (rqZ, 1) by rw [HDR.out, if_pos hp]); obtain ⟨rc0, rf0, rc1, rf1, rc2, rf2, rc3, rf3, rc4, rf4, rc5, rf5, rc6, rf6, rc7, rf7, rc8, rf8, rc9, rf9, rc10, rf10⟩ := cz11 HK.out.rb
  go_wp2
  exact rdec_out rfl (g := w.heap.size) rfl rfl (put11 HK.out.rb _ _ _ _ _ _ _ _ _ _ _) (decQ_none H0.out (bel11 HK.out.bel (Nat.le_refl _) _ _ _ _ _ _ _ _ _ _ _))
end
theorem Byt.past {w w' : World} {A : Option Addr} {len cap b off : Nat} {l : List UInt8} (h : Byt w A len cap b off l) (hs : w.heap.size ≤ w'.heap.size) (hb : 0 < len → w'.heap[b]? = w.heap[b]?) : Byt w' A len cap b off l :=
 ⟨h.hlen, h.le, h.hmax, fun hl => ⟨(h.addr hl).1, Nat.lt_of_lt_of_le (h.addr hl).2 hs⟩, fun j u hu => by
  have hl : 0 < len := by rw [← h.hlen]; have := (List.getElem?_eq_some_iff.1 hu).1; omega
  exact (World.cell?_of_block (a := ⟨b, off + j, none⟩) (hb hl)).trans (h.cell j u hu)⟩
theorem own_past {w w' : World} {base : Nat} {e : TypeId} {k n : Nat} {v : Value} {vs : List Value} (h : w.ownsRow base e k v n vs) (hb : ∀ j, v.ownBlock = some j → w'.heap[j]? = w.heap[j]?) : w'.ownsRow base e k v n vs := by
 obtain ⟨h0, h3 | ⟨b, cap, cur, e1, e2, e3, e4⟩⟩ := h
 ·
  exact ⟨h0, .inl h3⟩
 ·
  refine ⟨h0, .inr ⟨b, cap, cur, e1, e2, (hb b (by rw [e1]; rfl)).trans e3, e4⟩⟩
theorem q_row_succ {w : World} {base : Nat} {e : TypeId} {size : Nat} {v : Value} {n : Nat} {xs : List Value} (h : w.ownsRow base e size v (n + 1) xs) : ∃ g cap, v = .slice (some ⟨g, 0, none⟩) (n + 1) cap := by
 obtain ⟨_, h2 | ⟨g, cap, cur, e1, _⟩⟩ := h
 ·
  exact absurd h2.2 (by simp)
 ·
  exact ⟨g, cap, e1⟩
structure Du (w0 wr : World) (g R X : Nat) (cs : Array Value) (v : Value) (n : Nat) (vs : List Value) (A : Option Addr) (cap b off : Nat) (l : List UInt8) (q : Ps) : Prop where
 rr : Rr wr g A cap b off l q.p q.e
 rb : Blk wr R 26 zero11
 bx : Blk wr X 26 cs
 ow : wr.ownsRow (X + 1) 43 5 v n vs
 bel : Below w0.heap.size w0 wr
 hR : w0.heap.size ≤ R
 hg : R < g
 hX : g < X
 hl : 0 < l.length → b < R
section
variable {w0 wr w' : World} {g R X Y : Nat} {cs ics : Array Value} {v v' : Value} {n n' : Nat} {vs vs' : List Value} {A : Option Addr} {cap b off : Nat} {l : List UInt8} {q q' : Ps} {xs : List Opn}
theorem Du.call (h : Du w0 wr g R X cs v n vs A cap b off l q) (hr : Rr w' g A cap b off l q'.p q'.e) (ht : Tg wr w' g) : Du w0 w' g R X cs v n vs A cap b off l q' := by
 have h1 := h.hR; have h2 := h.hg; have h3 := h.hX
 refine ⟨hr, (ht.block R h.rb.lt (fun e => by cases e; omega)).trans h.rb, (ht.block X h.bx.lt (fun e => by cases e; omega)).trans h.bx, own_past h.ow (fun j hj => ht.block j (h.ow.lt j hj).2 (fun e => by have := (h.ow.lt j hj).1; cases e; omega)), h.bel.trans (ht.below (by omega) h.bel.size), h1, h2, h3, h.hl⟩
theorem Du.keep (h : Du w0 wr g R X cs v n vs A cap b off l q) (hb : Below wr.heap.size wr w') : Du w0 w' g R X cs v n vs A cap b off l q := h.call (h.rr.keep hb) (Tg.of hb)
theorem Du.set (h : Du w0 wr g R X cs v n vs A cap b off l q) (i : Nat) (u : Value) : Du w0 (wr.setCell ⟨X, i, none⟩ u) g R X (cs.setIfInBounds i u) v n vs A cap b off l q := by
 have h1 := h.hR; have h2 := h.hg; have h3 := h.hX
 have hne : ∀ j, j ≠ X → (wr.setCell ⟨X, i, none⟩ u).heap[j]? = wr.heap[j]? := fun j hj => Below.heap_setCell wr ⟨X, i, none⟩ u j hj
 exact ⟨⟨(hne g (by omega)).trans h.rr.bx, h.rr.byt.past (by simp [World.setCell]) (fun hl => hne b (by have := h.hl hl; omega)), h.rr.ne, h.rr.hp⟩, (hne R (by omega)).trans h.rb, h.bx.set_ i u, own_past h.ow (fun j hj => hne j (by have := (h.ow.lt j hj).1; omega)), h.bel.setCell (p := ⟨X, i, none⟩) (by show _ ≤ X; omega) u, h1, h2, h3, h.hl⟩
theorem Dr.du {A2 : Option Addr} {cap2 b2 : Nat} (h : Dr w0 wr g R X cs A cap b off l q A2 cap2 b2 []) : Du w0 wr g R X cs (.slice none 0 0) 0 [] A cap b off l q :=
 ⟨h.rr, h.rb, h.bx, World.ownsRow_nil _ _ _ _, h.bel, h.hR, h.hg, h.hX, h.hl⟩
theorem Du.dr (h : Du w0 wr g R X cs v xs.length (opsC xs) A cap b off l q) : ∃ A2 cap2 b2, v = .slice A2 xs.length cap2 ∧ Dr w0 wr g R X cs A cap b off l q A2 cap2 b2 xs := by
 obtain ⟨A2, cap2, b2, rfl, hO, hB⟩ := own_ops h.ow
 exact ⟨A2, cap2, b2, rfl, ⟨h.rr, h.rb, h.bx, h.bel, h.hR, h.hg, h.hX, hO, fun hl => hB hl, h.hl⟩⟩
structure Dw (w0 wr : World) (g R X Y : Nat) (cs ics : Array Value) (v : Value) (n : Nat) (vs : List Value) (A : Option Addr) (cap b off : Nat) (l : List UInt8) (q : Ps) : Prop where
 dv : Du w0 wr g R X cs v n vs A cap b off l q
 bY : Blk wr Y 43 ics
 hY : X < Y
 hv : ∀ k, v.ownBlock = some k → k < Y
theorem Du.item (h : Du w0 wr g R X cs v n vs A cap b off l q) (ics : Array Value) : Dw w0 (wr.alloc (.cells ics 43)) g R X wr.heap.size cs ics v n vs A cap b off l q :=
 ⟨h.keep ((Below.refl _ _).alloc (Nat.le_refl _) _), Blk.new _ _ _, h.bx.lt, fun k hk => (h.ow.lt k hk).2⟩
theorem Dw.call (h : Dw w0 wr g R X Y cs ics v n vs A cap b off l q) (hr : Rr w' g A cap b off l q'.p q'.e) (ht : Tg wr w' g) : Dw w0 w' g R X Y cs ics v n vs A cap b off l q' := by
 have h3 := h.dv.hX; have h4 := h.hY
 exact ⟨h.dv.call hr ht, (ht.block Y h.bY.lt (fun e => by cases e; omega)).trans h.bY, h4, h.hv⟩
theorem Dw.set (h : Dw w0 wr g R X Y cs ics v n vs A cap b off l q) (i : Nat) (u : Value) : Dw w0 (wr.setCell ⟨Y, i, none⟩ u) g R X Y cs (ics.setIfInBounds i u) v n vs A cap b off l q := by
 have h1 := h.dv.hR; have h2 := h.dv.hg; have h3 := h.dv.hX; have h4 := h.hY
 have hne : ∀ j, j ≠ Y → (wr.setCell ⟨Y, i, none⟩ u).heap[j]? = wr.heap[j]? := fun j hj => Below.heap_setCell wr ⟨Y, i, none⟩ u j hj
 exact ⟨⟨⟨(hne g (by omega)).trans h.dv.rr.bx, h.dv.rr.byt.past (by simp [World.setCell]) (fun hl => hne b (by have := h.dv.hl hl; omega)), h.dv.rr.ne, h.dv.rr.hp⟩, (hne R (by omega)).trans h.dv.rb, (hne X (by omega)).trans h.dv.bx, own_past h.dv.ow (fun j hj => hne j (by have := h.hv j hj; omega)), h.dv.bel.setCell (p := ⟨Y, i, none⟩) (by show _ ≤ Y; omega) u, h1, h2, h3, h.dv.hl⟩, h.bY.set_ i u, h4, h.hv⟩
theorem Dw.fin (h : Dw w0 wr g R X Y cs ics v n vs A cap b off l q) {o : Obj} (hg : (wr.alloc o).grownBy w' v.ownBlock) (h1 : w'.ownsRow (X + 1) 43 5 v' n' vs') : Blk w' X 26 cs ∧ Du w0 (w'.setCell ⟨X, 7, none⟩ v') g R X (cs.setIfInBounds 7 v') v' n' vs' A cap b off l q := by
 have k := h.dv.keep ((Below.refl wr.heap.size wr).alloc (Nat.le_refl _) o); have a1 := k.hR; have a2 := k.hg; have a3 := k.hX
 have hlt : ∀ j, v.ownBlock = some j → X + 1 ≤ j := fun j hj => (k.ow.lt j hj).1
 have hne : ∀ j, j < (wr.alloc o).heap.size → j ≤ X → w'.heap[j]? = (wr.alloc o).heap[j]? := fun j hj hx => hg.block j hj (fun e => by have := hlt j e.symm; omega)
 have b1 : Blk w' X 26 cs := (hne X k.bx.lt (Nat.le_refl _)).trans k.bx; have hb : Below w0.heap.size w0 w' := ⟨hg.os.trans k.bel.os, hg.tape.trans k.bel.tape, hg.output.trans k.bel.output, Nat.le_trans k.bel.size hg.size, fun j hj => (hne j (Nat.lt_of_lt_of_le hj k.bel.size) (by omega)).trans (k.bel.block j hj)⟩; have d : Du w0 w' g R X cs v' n' vs' A cap b off l q := ⟨⟨(hne g (Blk.lt k.rr.bx) (by omega)).trans k.rr.bx, k.rr.byt.past hg.size (fun hl => hne b (k.rr.byt.addr hl).2 (by have := k.hl hl; omega)), k.rr.ne, k.rr.hp⟩, (hne R k.rb.lt (by omega)).trans k.rb, b1, h1, hb, a1, a2, a3, k.hl⟩
 exact ⟨b1, d.set 7 v'⟩
end
theorem smX_nat (l : List UInt8) (q : Ps) : 0 ≤ (smX l q).1 ∧ (smX l q).1 ≤ 2147483647 := by
 have := numP_nat l q
 unfold smX
 simp only
 split <;> omega
theorem opX_sz (l : List UInt8) (q : Ps) : SzO (opX l q).1 := by
 unfold opX
 simp only
 have h1 := textP_size l (mkX l q).2; have h2 := otP_size (!(mkX l q).1) l (textP 20000 l (mkX l q).2).2
 exact ⟨by show (textP 20000 l (mkX l q).2).1.size ≤ _; omega, by show (otP (!(mkX l q).1) l (textP 20000 l (mkX l q).2).2).1.size ≤ _; omega⟩
theorem opsX_sz (l : List UInt8) : ∀ (n : Nat) (q : Ps), (opsX n l q).1.length ≤ n ∧ ∀ t ∈ (opsX n l q).1, SzO t
 | 0, q => ⟨Nat.le_refl _, fun t h => by simp [opsX] at h⟩
 | n + 1, q => by
  have h := opsX_sz l n (opX l q).2
  unfold opsX
  split
  ·
   exact ⟨Nat.zero_le _, fun t h => by simp at h⟩
  ·
   refine ⟨by rw [List.length_cons]; omega, fun t ht => ?_⟩
   rcases List.mem_cons.1 ht with rfl | ht
   ·
    exact opX_sz l q
   ·
    exact h.2 t ht
end Go.Proofs.YtphijnkiiokieaaGreatDoor
