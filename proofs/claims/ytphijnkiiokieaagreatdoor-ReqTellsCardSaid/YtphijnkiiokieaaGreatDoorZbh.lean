/- Texts of one proof, joined. -/
import Derived.Test.YtphijnkiiokieaaGreatDoorZbg
set_option linter.unusedVariables false
set_option linter.unusedSimpArgs false
set_option maxRecDepth 100000
set_option maxHeartbeats 80000000
namespace Go.Proofs.YtphijnkiiokieaaGreatDoor
open Go.RowKit
open Go.Lib hiding intOf
section
variable {q : Rq} (hk : kindB q.k = true)
include hk
theorem cq_x (h : extraB q = true) : checkQ q = 1 := by
 unfold checkQ; rw [if_neg (by rw [hk]; decide), if_pos (by rw [h]; rfl)]
theorem cq_d (h : q.ops.all okD = false) : checkQ q = 1 := by
 unfold checkQ; rw [if_neg (by rw [hk]; decide), if_pos (by rw [h]; simp)]
theorem cq_n (hx : extraB q = false) (hd : q.ops.all okD = true) (h : (headN q && q.ops.all okU) = false) : checkQ q = 3 := by
 unfold checkQ; rw [if_neg (by rw [hk]; decide), if_neg (by rw [hx, hd]; decide), if_pos h]
theorem cq_f (hx : extraB q = false) (hd : q.ops.all okD = true) (hn : (headN q && q.ops.all okU) = true) (h : (headF q && q.ops.all okF) = false) : checkQ q = 1 := by
 unfold checkQ; rw [if_neg (by rw [hk]; decide), if_neg (by rw [hx, hd]; decide), if_neg (by rw [hn]; decide), if_pos h]
theorem cq_r (hx : extraB q = false) (hd : q.ops.all okD = true) (hn : (headN q && q.ops.all okU) = true) (hf : (headF q && q.ops.all okF) = true) (h : rangQ q = false) : checkQ q = 12 := by
 unfold checkQ; rw [if_neg (by rw [hk]; decide), if_neg (by rw [hx, hd]; decide), if_neg (by rw [hn]; decide), if_neg (by rw [hf]; decide), if_pos h]
theorem cq_0 (hx : extraB q = false) (hd : q.ops.all okD = true) (hn : (headN q && q.ops.all okU) = true) (hf : (headF q && q.ops.all okF) = true) (h : rangQ q = true) : checkQ q = 0 := by
 unfold checkQ; rw [if_neg (by rw [hk]; decide), if_neg (by rw [hx, hd]; decide), if_neg (by rw [hn]; decide), if_neg (by rw [hf]; decide), if_neg (by rw [h]; decide)]
end
theorem nzO_gt {l : List Opn} {len : Nat} (h : l.length = len) : nzO l = decide ((len : Int) > 0) := by
 unfold nzO
 rw [h, Bool.eq_iff_iff]
 simp
 omega
theorem headN_ref (q : Rq) {n1 n2 n3 : Bool} (h1 : Id.nameB q.t.data.toList = n1) (h2 : Id.nameB q.co.data.toList = n2) (h3 : Id.uidB q.u.data.toList = n3) : headN q = !(hT q.k && !n1 || hC q.k && !n2 || hU q.k && !n3) := by
 unfold headN
 rw [h1, h2, h3]
 cases hT q.k <;> cases hC q.k <;> cases hU q.k <;> cases n1 <;> cases n2 <;> cases n3 <;> rfl
theorem headF_ref (q : Rq) {n4 n5 : Bool} (hx : extraB q = false) (h4 : isC q.c = n4) (h5 : Et.mayB q.ck q.cv = n5) : headF q = !(hK q.k && !n4 || hN q.k && !n5) := by
 have h0 : hN q.k = false → n5 = true := fun e => by
  unfold extraB at hx
  simp only [Bool.or_eq_false_iff, Bool.and_eq_false_iff, Bool.not_eq_false'] at hx; obtain ⟨⟨⟨⟨⟨_, a5⟩, _⟩, _⟩, _⟩, _⟩ := hx; have a5' := a5.resolve_left (by rw [e]; decide)
  unfold nzC at a5'
  simp only [Bool.not_eq_false', Bool.and_eq_true, beq_iff_eq] at a5'; rw [← h5, a5'.1, a5'.2]
  decide
 unfold headF
 rw [h4, h5]
 cases hk : hK q.k <;> cases hn : hN q.k <;> cases n4 <;> cases n5 <;> first | rfl | (have := h0 hn; cases this)
theorem rangQ_ref (q : Rq) {len : Nat} (h : q.ops.length = len) : rangQ q = !(hO q.k && (decide ((len : Int) < 1) || decide ((len : Int) > 8)) || decide (q.tok < 0) || hM q.k && (decide (q.mo < 1) || decide (q.mo > 1000)) || decide (q.ti < 0) || decide (q.ti > 1048576)) := by
 unfold rangQ
 rw [h, Bool.eq_iff_iff]
 cases hO q.k <;> cases hM q.k <;> simp <;> omega
theorem kind_out {q : Rq} (h : kindB q.k = false) : checkQ q = 12 := by unfold checkQ; rw [if_pos h]
section
variable {w : World} {A : Option Addr} {len cap b off : Nat} {xs : List Opn}
theorem rcheck_raw (h : Ops w A len cap b off xs) (k : Int) (t co u c : ByteArray) (ck cv : Int) (tok mo ti : Int) (hz : SzQ ⟨k, t, co, u, c, ck, cv, xs, tok, mo, ti⟩) :
  Calls Tryz.prog 15 #[.agg #[.int .i64 k, .string t, .string co, .string u, .string c, .int .i64 ck, .int .i64 cv, .slice A len cap, .int .i64 tok, .int .i64 mo, .int .i64 ti]] w fun e w' => e = .returned (.int .i64 (checkQ ⟨k, t, co, u, c, ck, cv, xs, tok, mo, ti⟩)) ∧ Below w.heap.size w w' := by
 have hNE : ∀ wq, Sem.run Tryz.prog (binOp .neq 23 (.agg #[.int .i64 ck, .int .i64 cv]) (.agg #[.int .i64 0, .int .i64 0])) wq = .ok (.bool (nzC ck cv)) wq := fun wq => neC_run ck cv 0 0 wq
 have HX0 := Zh ((Bxs.start w).new 26 #[.int .i64 k, .string t, .string co, .string u, .string c, .int .i64 ck, .int .i64 cv, .slice A len cap, .int .i64 tok, .int .i64 mo, .int .i64 ti]); have HI := Zh h; have hlen := h.hlen; have hlc := h.le; have hn : len ≤ 1000000 := by have := hz.n; simp only at this; omega
 have hnI : (len : Int) ≤ 1000000 := by omega
 have HZ := Zh hz.ops; have M1 := Zh (fun W => Id.rname_any t W (by unfold maxLen; have := hz.t; simp only at this; omega)); have M2 := Zh (fun W => Id.rname_any co W (by unfold maxLen; have := hz.co; simp only at this; omega)); have M3 := Zh (fun W => Id.ruid_any u W (by unfold maxLen; have := hz.u; simp only at this; omega)); have M4 := Zh (fun W => ris_any c hz.c W); have M5 := Zh (fun W => Et.rmay_any ck cv W); obtain ⟨n1, hn1⟩ : ∃ r, Id.nameB t.data.toList = r := ⟨_, rfl⟩; obtain ⟨n2, hn2⟩ : ∃ r, Id.nameB co.data.toList = r := ⟨_, rfl⟩; obtain ⟨n3, hn3⟩ : ∃ r, Id.uidB u.data.toList = r := ⟨_, rfl⟩; obtain ⟨n4, hn4⟩ : ∃ r, isC c = r := ⟨_, rfl⟩; obtain ⟨n5, hn5⟩ : ∃ r, Et.mayB ck cv = r := ⟨_, rfl⟩; have HHN := Zh (headN_ref ⟨k, t, co, u, c, ck, cv, xs, tok, mo, ti⟩ hn1 hn2 hn3); have HHF := Zh (fun hx => headF_ref ⟨k, t, co, u, c, ck, cv, xs, tok, mo, ti⟩ hx hn4 hn5); have HRQ := Zh (rangQ_ref ⟨k, t, co, u, c, ck, cv, xs, tok, mo, ti⟩ hlen); simp only at HHN HHF HRQ; rw [hn1] at M1; rw [hn2] at M2; rw [hn3] at M3; rw [hn4] at M4; rw [hn5] at M5; obtain ⟨r, hr⟩ : ∃ r, checkQ ⟨k, t, co, u, c, ck, cv, xs, tok, mo, ti⟩ = r := ⟨_, rfl⟩; have HR := Zh hr.symm; rw [hr]; clear hr h hz hn1 hn2 hn3 hn4 hn5
 cases hkB : kindB k with
 | false =>
  have H0 := Zh (show r = 12 by rw [HR.out]; exact kind_out hkB); clear HR HHN HHF HRQ M1 M2 M3 M4 M5 hNE; have hk12 : k < 1 ∨ 11 < k := by
   unfold kindB at hkB
   rw [Bool.and_eq_false_iff, decide_eq_false_iff_not, decide_eq_false_iff_not] at hkB
   omega
  clear hkB
  rcases hk12 with hk1 | hk2
  all_goals
   go_enter Tryz.func15, Tryz.ntmps15
   go_wp2
   go_ret
   exact ⟨by rw [H0.out]; rfl, HX0.out.bel⟩
 | true =>
  have HKB := Zh (show kindB (Rq.k ⟨k, t, co, u, c, ck, cv, xs, tok, mo, ti⟩) = true from hkB); have hk12 : 1 ≤ k ∧ k ≤ 11 := by
   unfold kindB at hkB
   rw [Bool.and_eq_true, decide_eq_true_eq, decide_eq_true_eq] at hkB
   exact hkB
  obtain ⟨hk1, hk2⟩ := hk12; clear hkB
  go_enter Tryz.func15, Tryz.ntmps15
  go_upto_region 4 with fail
  apply wp_region_lit
  refine wpList_piece 14 (fun a w a' w' => ∃ (v22 v23 v24 v25 v26 v27 v28 v29 v30 v31 v32 v33 : Value) (b4 b5 : Bool), b4 = (hT k) ∧ b5 = (hC k) ∧ a' = ((((((((((((((a.put (some 22) v22).put (some 23) v23).put (some 24) v24).put (some 25) v25).put (some 26) v26).put (some 27) v27).put (some 28) v28).put (some 29) v29).put (some 30) v30).put (some 31) v31).put (some 32) v32).put (some 33) v33).put (some 4) (.bool b4)).put (some 5) (.bool b5)) ∧ w' = w) ?_ ?_
  ·
   intro K hGo; simp only [List.take_succ_cons, List.take_zero]
   go_wp2_with fail
   all_goals (refine ⟨?_, ?_⟩ <;> first | decide | rfl | (rw [Bool.eq_iff_iff]; simp [hT, hC, hU, hK, hN, hO, hW, hM, hI] <;> omega))
  ·
   rintro _ _ ⟨v22, v23, v24, v25, v26, v27, v28, v29, v30, v31, v32, v33, b4, b5, e4, e5, rfl, rfl⟩; simp only [Act.put, List.setIfInBounds_toArray, List.set_cons_zero, List.set_cons_succ, List.drop_succ_cons, List.drop_zero]; have E4 := Zh e4; clear e4; have E5 := Zh e5; clear e5
   go_upto_region 5 with fail
   apply wp_region_lit
   refine wpList_piece 21 (fun a w a' w' => ∃ (v34 v35 v36 v37 v38 v39 v40 v41 v42 v43 v44 v45 v46 v47 v48 v49 v50 v51 : Value) (b6 b7 b8 : Bool), b6 = (hU k) ∧ b7 = (hK k) ∧ b8 = (hN k) ∧ a' = (((((((((((((((((((((a.put (some 34) v34).put (some 35) v35).put (some 36) v36).put (some 37) v37).put (some 38) v38).put (some 39) v39).put (some 40) v40).put (some 41) v41).put (some 42) v42).put (some 43) v43).put (some 44) v44).put (some 45) v45).put (some 46) v46).put (some 47) v47).put (some 48) v48).put (some 49) v49).put (some 50) v50).put (some 51) v51).put (some 6) (.bool b6)).put (some 7) (.bool b7)).put (some 8) (.bool b8)) ∧ w' = w) ?_ ?_
   ·
    intro K hGo; simp only [List.take_succ_cons, List.take_zero]
    go_wp2_with fail
    all_goals (refine ⟨?_, ?_, ?_⟩ <;> first | decide | rfl | (rw [Bool.eq_iff_iff]; simp [hT, hC, hU, hK, hN, hO, hW, hM, hI] <;> omega))
   ·
    rintro _ _ ⟨v34, v35, v36, v37, v38, v39, v40, v41, v42, v43, v44, v45, v46, v47, v48, v49, v50, v51, b6, b7, b8, e6, e7, e8, rfl, rfl⟩; simp only [Act.put, List.setIfInBounds_toArray, List.set_cons_zero, List.set_cons_succ, List.drop_succ_cons, List.drop_zero]; have E6 := Zh e6; clear e6; have E7 := Zh e7; clear e7; have E8 := Zh e8; clear e8
    go_upto_region 6 with fail
    apply wp_region_lit
    refine wpList_piece 7 (fun a w a' w' => ∃ (v52 v53 v54 v55 v56 v57 : Value) (b9 : Bool), b9 = (hW k) ∧ a' = (((((((a.put (some 52) v52).put (some 53) v53).put (some 54) v54).put (some 55) v55).put (some 56) v56).put (some 57) v57).put (some 9) (.bool b9)) ∧ w' = w) ?_ ?_
    ·
     intro K hGo; simp only [List.take_succ_cons, List.take_zero]
     go_wp2_with fail
     all_goals (refine ?_ <;> first | decide | rfl | (rw [Bool.eq_iff_iff]; simp [hT, hC, hU, hK, hN, hO, hW, hM, hI] <;> omega))
    ·
     rintro _ _ ⟨v52, v53, v54, v55, v56, v57, b9, e9, rfl, rfl⟩; simp only [Act.put, List.setIfInBounds_toArray, List.set_cons_zero, List.set_cons_succ, List.drop_succ_cons, List.drop_zero]; have E9 := Zh e9; clear e9
     go_upto_region 7 with fail
     simp only [List.append_eq, List.cons_append, List.nil_append]
     apply wp_region_lit
     refine wpList_piece 7 (fun a w a' w' => ∃ (v58 v59 v60 v61 v62 v63 : Value) (b64 : Bool), b64 = (!b4 && nz t) ∧ a' = (((((((a.put (some 58) v58).put (some 59) v59).put (some 60) v60).put (some 61) v61).put (some 62) v62).put (some 63) v63).put (some 64) (.bool b64)) ∧ w' = w) ?_ ?_
     ·
      intro K hGo; simp only [List.take_succ_cons, List.take_zero]
      cases b4 with
      | true =>
       go_wp2_with fail
       all_goals first | rfl | decide | (simp [nz, nzC, nzI, hT, hC, hU, hK, hN, hO, hW, hM, hI]; done) | (simp [nz, nzC, nzI, hT, hC, hU, hK, hN, hO, hW, hM, hI]; omega) | (rw [Bool.eq_iff_iff]; simp [hT, hC, hU, hK, hN, hO, hW, hM, hI] <;> omega)
      | false =>
       go_wp2_with fail
       all_goals first | rfl | decide | (simp [nz, nzC, nzI, hT, hC, hU, hK, hN, hO, hW, hM, hI]; done) | (simp [nz, nzC, nzI, hT, hC, hU, hK, hN, hO, hW, hM, hI]; omega) | (rw [Bool.eq_iff_iff]; simp [hT, hC, hU, hK, hN, hO, hW, hM, hI] <;> omega)
     ·
      rintro _ _ ⟨v58, v59, v60, v61, v62, v63, b64, e64, rfl, rfl⟩; simp only [Act.put, List.setIfInBounds_toArray, List.set_cons_zero, List.set_cons_succ, List.drop_succ_cons, List.drop_zero]; have E64 := Zh e64; clear e64; refine wpList_piece 9 (fun a w a' w' => ∃ (v65 v66 v67 v68 v69 v70 v71 v72 : Value) (b73 : Bool), b73 = (b64 || !b5 && nz co) ∧ a' = (((((((((a.put (some 65) v65).put (some 66) v66).put (some 67) v67).put (some 68) v68).put (some 69) v69).put (some 70) v70).put (some 71) v71).put (some 72) v72).put (some 73) (.bool b73)) ∧ w' = w) ?_ ?_
      ·
       intro K hGo; simp only [List.take_succ_cons, List.take_zero]
       cases b64 with
       | true =>
        go_wp2_with fail
        all_goals first | rfl | decide | (simp [nz, nzC, nzI, hT, hC, hU, hK, hN, hO, hW, hM, hI]; done) | (simp [nz, nzC, nzI, hT, hC, hU, hK, hN, hO, hW, hM, hI]; omega) | (rw [Bool.eq_iff_iff]; simp [hT, hC, hU, hK, hN, hO, hW, hM, hI] <;> omega)
       | false =>
        cases b5 with
        | true =>
         go_wp2_with fail
         all_goals first | rfl | decide | (simp [nz, nzC, nzI, hT, hC, hU, hK, hN, hO, hW, hM, hI]; done) | (simp [nz, nzC, nzI, hT, hC, hU, hK, hN, hO, hW, hM, hI]; omega) | (rw [Bool.eq_iff_iff]; simp [hT, hC, hU, hK, hN, hO, hW, hM, hI] <;> omega)
        | false =>
         go_wp2_with fail
         all_goals first | rfl | decide | (simp [nz, nzC, nzI, hT, hC, hU, hK, hN, hO, hW, hM, hI]; done) | (simp [nz, nzC, nzI, hT, hC, hU, hK, hN, hO, hW, hM, hI]; omega) | (rw [Bool.eq_iff_iff]; simp [hT, hC, hU, hK, hN, hO, hW, hM, hI] <;> omega)
      ·
       rintro _ _ ⟨v65, v66, v67, v68, v69, v70, v71, v72, b73, e73, rfl, rfl⟩; simp only [Act.put, List.setIfInBounds_toArray, List.set_cons_zero, List.set_cons_succ, List.drop_succ_cons, List.drop_zero]; have E73 := Zh e73; clear e73; refine wpList_piece 9 (fun a w a' w' => ∃ (v74 v75 v76 v77 v78 v79 v80 v81 : Value) (b82 : Bool), b82 = (b73 || !b6 && nz u) ∧ a' = (((((((((a.put (some 74) v74).put (some 75) v75).put (some 76) v76).put (some 77) v77).put (some 78) v78).put (some 79) v79).put (some 80) v80).put (some 81) v81).put (some 82) (.bool b82)) ∧ w' = w) ?_ ?_
       ·
        intro K hGo; simp only [List.take_succ_cons, List.take_zero]
        cases b73 with
        | true =>
         go_wp2_with fail
         all_goals first | rfl | decide | (simp [nz, nzC, nzI, hT, hC, hU, hK, hN, hO, hW, hM, hI]; done) | (simp [nz, nzC, nzI, hT, hC, hU, hK, hN, hO, hW, hM, hI]; omega) | (rw [Bool.eq_iff_iff]; simp [hT, hC, hU, hK, hN, hO, hW, hM, hI] <;> omega)
        | false =>
         cases b6 with
         | true =>
          go_wp2_with fail
          all_goals first | rfl | decide | (simp [nz, nzC, nzI, hT, hC, hU, hK, hN, hO, hW, hM, hI]; done) | (simp [nz, nzC, nzI, hT, hC, hU, hK, hN, hO, hW, hM, hI]; omega) | (rw [Bool.eq_iff_iff]; simp [hT, hC, hU, hK, hN, hO, hW, hM, hI] <;> omega)
         | false =>
          go_wp2_with fail
          all_goals first | rfl | decide | (simp [nz, nzC, nzI, hT, hC, hU, hK, hN, hO, hW, hM, hI]; done) | (simp [nz, nzC, nzI, hT, hC, hU, hK, hN, hO, hW, hM, hI]; omega) | (rw [Bool.eq_iff_iff]; simp [hT, hC, hU, hK, hN, hO, hW, hM, hI] <;> omega)
       ·
        rintro _ _ ⟨v74, v75, v76, v77, v78, v79, v80, v81, b82, e82, rfl, rfl⟩; simp only [Act.put, List.setIfInBounds_toArray, List.set_cons_zero, List.set_cons_succ, List.drop_succ_cons, List.drop_zero]; have E82 := Zh e82; clear e82; refine wpList_piece 9 (fun a w a' w' => ∃ (v83 v84 v85 v86 v87 v88 v89 v90 : Value) (b91 : Bool), b91 = (b82 || !b7 && nz c) ∧ a' = (((((((((a.put (some 83) v83).put (some 84) v84).put (some 85) v85).put (some 86) v86).put (some 87) v87).put (some 88) v88).put (some 89) v89).put (some 90) v90).put (some 91) (.bool b91)) ∧ w' = w) ?_ ?_
        ·
         intro K hGo; simp only [List.take_succ_cons, List.take_zero]
         cases b82 with
         | true =>
          go_wp2_with fail
          all_goals first | rfl | decide | (simp [nz, nzC, nzI, hT, hC, hU, hK, hN, hO, hW, hM, hI]; done) | (simp [nz, nzC, nzI, hT, hC, hU, hK, hN, hO, hW, hM, hI]; omega) | (rw [Bool.eq_iff_iff]; simp [hT, hC, hU, hK, hN, hO, hW, hM, hI] <;> omega)
         | false =>
          cases b7 with
          | true =>
           go_wp2_with fail
           all_goals first | rfl | decide | (simp [nz, nzC, nzI, hT, hC, hU, hK, hN, hO, hW, hM, hI]; done) | (simp [nz, nzC, nzI, hT, hC, hU, hK, hN, hO, hW, hM, hI]; omega) | (rw [Bool.eq_iff_iff]; simp [hT, hC, hU, hK, hN, hO, hW, hM, hI] <;> omega)
          | false =>
           go_wp2_with fail
           all_goals first | rfl | decide | (simp [nz, nzC, nzI, hT, hC, hU, hK, hN, hO, hW, hM, hI]; done) | (simp [nz, nzC, nzI, hT, hC, hU, hK, hN, hO, hW, hM, hI]; omega) | (rw [Bool.eq_iff_iff]; simp [hT, hC, hU, hK, hN, hO, hW, hM, hI] <;> omega)
        ·
         rintro _ _ ⟨v83, v84, v85, v86, v87, v88, v89, v90, b91, e91, rfl, rfl⟩; simp only [Act.put, List.setIfInBounds_toArray, List.set_cons_zero, List.set_cons_succ, List.drop_succ_cons, List.drop_zero]; have E91 := Zh e91; clear e91; refine wpList_piece 10 (fun a w a' w' => ∃ (v92 v93 v94 v95 v96 v97 v98 v99 v100 : Value) (b101 : Bool), b101 = (b91 || !b8 && nzC ck cv) ∧ a' = ((((((((((a.put (some 92) v92).put (some 93) v93).put (some 94) v94).put (some 95) v95).put (some 96) v96).put (some 97) v97).put (some 98) v98).put (some 99) v99).put (some 100) v100).put (some 101) (.bool b101)) ∧ w' = w) ?_ ?_
         ·
          intro K hGo; simp only [List.take_succ_cons, List.take_zero]
          cases b91 with
          | true =>
           go_wp2_with fail
           all_goals first | rfl | decide | (simp [nz, nzC, nzI, hT, hC, hU, hK, hN, hO, hW, hM, hI]; done) | (simp [nz, nzC, nzI, hT, hC, hU, hK, hN, hO, hW, hM, hI]; omega) | (rw [Bool.eq_iff_iff]; simp [hT, hC, hU, hK, hN, hO, hW, hM, hI] <;> omega)
          | false =>
           cases b8 with
           | true =>
            go_wp2_with fail
            all_goals first | rfl | decide | (simp [nz, nzC, nzI, hT, hC, hU, hK, hN, hO, hW, hM, hI]; done) | (simp [nz, nzC, nzI, hT, hC, hU, hK, hN, hO, hW, hM, hI]; omega) | (rw [Bool.eq_iff_iff]; simp [hT, hC, hU, hK, hN, hO, hW, hM, hI] <;> omega)
           | false =>
            go_wp2_with fail
            all_goals first | rfl | decide | (simp [nz, nzC, nzI, hT, hC, hU, hK, hN, hO, hW, hM, hI]; done) | (simp [nz, nzC, nzI, hT, hC, hU, hK, hN, hO, hW, hM, hI]; omega) | (rw [Bool.eq_iff_iff]; simp [hT, hC, hU, hK, hN, hO, hW, hM, hI] <;> omega)
         ·
          rintro _ _ ⟨v92, v93, v94, v95, v96, v97, v98, v99, v100, b101, e101, rfl, rfl⟩; simp only [Act.put, List.setIfInBounds_toArray, List.set_cons_zero, List.set_cons_succ, List.drop_succ_cons, List.drop_zero]; have E101 := Zh e101; clear e101; refine wpList_piece 10 (fun a w a' w' => ∃ (v102 v103 v104 v105 v106 v107 v108 v109 v110 : Value) (b111 : Bool), b111 = (b101 || !hO k && decide ((len : Int) > 0)) ∧ a' = ((((((((((a.put (some 102) v102).put (some 103) v103).put (some 104) v104).put (some 105) v105).put (some 106) v106).put (some 107) v107).put (some 108) v108).put (some 109) v109).put (some 110) v110).put (some 111) (.bool b111)) ∧ w' = w) ?_ ?_
          ·
           intro K hGo; simp only [List.take_succ_cons, List.take_zero]
           cases b101 with
           | true =>
            go_wp2_with fail
            all_goals first | rfl | decide | (simp [nz, nzC, nzI, hT, hC, hU, hK, hN, hO, hW, hM, hI]; done) | (simp [nz, nzC, nzI, hT, hC, hU, hK, hN, hO, hW, hM, hI]; omega) | (rw [Bool.eq_iff_iff]; simp [hT, hC, hU, hK, hN, hO, hW, hM, hI] <;> omega)
           | false =>
            by_cases hkt : k = 7
            ·
             subst hkt
             go_wp2_with fail
             all_goals first | rfl | decide | (simp [nz, nzC, nzI, hT, hC, hU, hK, hN, hO, hW, hM, hI]; done) | (simp [nz, nzC, nzI, hT, hC, hU, hK, hN, hO, hW, hM, hI]; omega) | (rw [Bool.eq_iff_iff]; simp [hT, hC, hU, hK, hN, hO, hW, hM, hI] <;> omega)
            ·
             have hkf : hO k = false := by unfold hO; simp; omega
             go_wp2_with fail
             all_goals first | rfl | decide | (simp [nz, nzC, nzI, hT, hC, hU, hK, hN, hO, hW, hM, hI]; done) | (simp [nz, nzC, nzI, hT, hC, hU, hK, hN, hO, hW, hM, hI]; omega) | (rw [Bool.eq_iff_iff]; simp [hT, hC, hU, hK, hN, hO, hW, hM, hI] <;> omega)
          ·
           rintro _ _ ⟨v102, v103, v104, v105, v106, v107, v108, v109, v110, b111, e111, rfl, rfl⟩; simp only [Act.put, List.setIfInBounds_toArray, List.set_cons_zero, List.set_cons_succ, List.drop_succ_cons, List.drop_zero]; have E111 := Zh e111; clear e111; refine wpList_piece 9 (fun a w a' w' => ∃ (v112 v113 v114 v115 v116 v117 v118 v119 : Value) (b120 : Bool), b120 = (b111 || !b9 && nzI tok) ∧ a' = (((((((((a.put (some 112) v112).put (some 113) v113).put (some 114) v114).put (some 115) v115).put (some 116) v116).put (some 117) v117).put (some 118) v118).put (some 119) v119).put (some 120) (.bool b120)) ∧ w' = w) ?_ ?_
           ·
            intro K hGo; simp only [List.take_succ_cons, List.take_zero]
            cases b111 with
            | true =>
             go_wp2_with fail
             all_goals first | rfl | decide | (simp [nz, nzC, nzI, hT, hC, hU, hK, hN, hO, hW, hM, hI]; done) | (simp [nz, nzC, nzI, hT, hC, hU, hK, hN, hO, hW, hM, hI]; omega) | (rw [Bool.eq_iff_iff]; simp [hT, hC, hU, hK, hN, hO, hW, hM, hI] <;> omega)
            | false =>
             cases b9 with
             | true =>
              go_wp2_with fail
              all_goals first | rfl | decide | (simp [nz, nzC, nzI, hT, hC, hU, hK, hN, hO, hW, hM, hI]; done) | (simp [nz, nzC, nzI, hT, hC, hU, hK, hN, hO, hW, hM, hI]; omega) | (rw [Bool.eq_iff_iff]; simp [hT, hC, hU, hK, hN, hO, hW, hM, hI] <;> omega)
             | false =>
              go_wp2_with fail
              all_goals first | rfl | decide | (simp [nz, nzC, nzI, hT, hC, hU, hK, hN, hO, hW, hM, hI]; done) | (simp [nz, nzC, nzI, hT, hC, hU, hK, hN, hO, hW, hM, hI]; omega) | (rw [Bool.eq_iff_iff]; simp [hT, hC, hU, hK, hN, hO, hW, hM, hI] <;> omega)
           ·
            rintro _ _ ⟨v112, v113, v114, v115, v116, v117, v118, v119, b120, e120, rfl, rfl⟩; simp only [Act.put, List.setIfInBounds_toArray, List.set_cons_zero, List.set_cons_succ, List.drop_succ_cons, List.drop_zero]; have E120 := Zh e120; clear e120; refine wpList_piece 9 (fun a w a' w' => ∃ (v121 v122 v123 v124 v125 v126 v127 v128 : Value) (b129 : Bool), b129 = (b120 || !hM k && nzI mo) ∧ a' = (((((((((a.put (some 121) v121).put (some 122) v122).put (some 123) v123).put (some 124) v124).put (some 125) v125).put (some 126) v126).put (some 127) v127).put (some 128) v128).put (some 129) (.bool b129)) ∧ w' = w) ?_ ?_
            ·
             intro K hGo; simp only [List.take_succ_cons, List.take_zero]
             cases b120 with
             | true =>
              go_wp2_with fail
              all_goals first | rfl | decide | (simp [nz, nzC, nzI, hT, hC, hU, hK, hN, hO, hW, hM, hI]; done) | (simp [nz, nzC, nzI, hT, hC, hU, hK, hN, hO, hW, hM, hI]; omega) | (rw [Bool.eq_iff_iff]; simp [hT, hC, hU, hK, hN, hO, hW, hM, hI] <;> omega)
             | false =>
              by_cases hkt : k = 8
              ·
               subst hkt
               go_wp2_with fail
               all_goals first | rfl | decide | (simp [nz, nzC, nzI, hT, hC, hU, hK, hN, hO, hW, hM, hI]; done) | (simp [nz, nzC, nzI, hT, hC, hU, hK, hN, hO, hW, hM, hI]; omega) | (rw [Bool.eq_iff_iff]; simp [hT, hC, hU, hK, hN, hO, hW, hM, hI] <;> omega)
              ·
               have hkf : hM k = false := by unfold hM; simp; omega
               go_wp2_with fail
               all_goals first | rfl | decide | (simp [nz, nzC, nzI, hT, hC, hU, hK, hN, hO, hW, hM, hI]; done) | (simp [nz, nzC, nzI, hT, hC, hU, hK, hN, hO, hW, hM, hI]; omega) | (rw [Bool.eq_iff_iff]; simp [hT, hC, hU, hK, hN, hO, hW, hM, hI] <;> omega)
            ·
             rintro _ _ ⟨v121, v122, v123, v124, v125, v126, v127, v128, b129, e129, rfl, rfl⟩; simp only [Act.put, List.setIfInBounds_toArray, List.set_cons_zero, List.set_cons_succ, List.drop_succ_cons, List.drop_zero]; have E129 := Zh e129; clear e129; refine wpList_piece 9 (fun a w a' w' => ∃ (v130 v131 v132 v133 v134 v135 v136 v137 : Value) (b138 : Bool), b138 = (b129 || !hI k && nzI ti) ∧ a' = (((((((((a.put (some 130) v130).put (some 131) v131).put (some 132) v132).put (some 133) v133).put (some 134) v134).put (some 135) v135).put (some 136) v136).put (some 137) v137).put (some 138) (.bool b138)) ∧ w' = w) ?_ ?_
             ·
              intro K hGo; simp only [List.take_succ_cons, List.take_zero]
              cases b129 with
              | true =>
               go_wp2_with fail
               all_goals first | rfl | decide | (simp [nz, nzC, nzI, hT, hC, hU, hK, hN, hO, hW, hM, hI]; done) | (simp [nz, nzC, nzI, hT, hC, hU, hK, hN, hO, hW, hM, hI]; omega) | (rw [Bool.eq_iff_iff]; simp [hT, hC, hU, hK, hN, hO, hW, hM, hI] <;> omega)
              | false =>
               by_cases hkt : k = 9
               ·
                subst hkt
                go_wp2_with fail
                all_goals first | rfl | decide | (simp [nz, nzC, nzI, hT, hC, hU, hK, hN, hO, hW, hM, hI]; done) | (simp [nz, nzC, nzI, hT, hC, hU, hK, hN, hO, hW, hM, hI]; omega) | (rw [Bool.eq_iff_iff]; simp [hT, hC, hU, hK, hN, hO, hW, hM, hI] <;> omega)
               ·
                have hkf : hI k = false := by unfold hI; simp; omega
                go_wp2_with fail
                all_goals first | rfl | decide | (simp [nz, nzC, nzI, hT, hC, hU, hK, hN, hO, hW, hM, hI]; done) | (simp [nz, nzC, nzI, hT, hC, hU, hK, hN, hO, hW, hM, hI]; omega) | (rw [Bool.eq_iff_iff]; simp [hT, hC, hU, hK, hN, hO, hW, hM, hI] <;> omega)
             ·
              rintro _ _ ⟨v130, v131, v132, v133, v134, v135, v136, v137, b138, e138, rfl, rfl⟩; simp only [Act.put, List.setIfInBounds_toArray, List.set_cons_zero, List.set_cons_succ, List.drop_succ_cons, List.drop_zero]; have E138 := Zh e138; clear e138; have EX := Zh (show extraB ⟨k, t, co, u, c, ck, cv, xs, tok, mo, ti⟩ = b138 by rw [E138.out, E129.out, E120.out, E111.out, E101.out, E91.out, E82.out, E73.out, E64.out, E4.out, E5.out, E6.out, E7.out, E8.out, E9.out]; unfold extraB; simp only [nzO_gt hlen]); clear E138 E129 E120 E111 E101 E91 E82 E73 E64; obtain ⟨a0, a1, a2, a3, a4, a5, a6, a7, a8, a9, a10⟩ := cs11 (HX0.out.get 0 rfl); simp only [List.getElem?_toArray, List.getElem?_cons_zero, List.getElem?_cons_succ] at a0 a1 a2 a3 a4 a5 a6 a7 a8 a9 a10
              cases b138 with
              | true =>
               have H0 := Zh (show r = 1 by rw [HR.out]; exact cq_x HKB.out EX.out)
               go_wp2
               go_ret
               exact ⟨by rw [H0.out]; rfl, HX0.out.bel⟩
              | false =>
               go_wp2_with fail
               go_loopw [10] (fun i wr => ∃ q : Nat, q ≤ len ∧ i = .int .i64 (q : Int) ∧ (xs.take q).all okD = true ∧ Bxs w wr [(w.heap.size, 26, #[.int .i64 k, .string t, .string co, .string u, .string c, .int .i64 ck, .int .i64 cv, .slice A len cap, .int .i64 tok, .int .i64 mo, .int .i64 ti])]) (fun i _ => len - (intOf i).toNat)
               case atStart => exact ⟨0, Nat.zero_le _, rfl, by simp, HX0.out⟩
               case round =>
                obtain ⟨q, hq, rfl, hall, hB⟩ := hrel; have HXA := Zh hB; have HAL := Zh hall; clear hall hB; obtain ⟨k0, k1, k2, k3, k4, k5, k6, k7, k8, k9, k10⟩ := cs11 (HXA.out.get 0 rfl); simp only [List.getElem?_toArray, List.getElem?_cons_zero, List.getElem?_cons_succ] at k0 k1 k2 k3 k4 k5 k6 k7 k8 k9 k10
                by_cases hql : q < len
                ·
                 obtain ⟨o, ho⟩ : ∃ o, xs[q]? = some o := ⟨xs[q]'(by rw [hlen]; exact hql), List.getElem?_eq_getElem _⟩; obtain ⟨rfl, hbl⟩ := HI.out.addr (by omega); obtain ⟨c0, c1, c2, c3, c4⟩ := (HI.out.below HXA.out.bel (fun _ => hbl)).cell q o ho; have HSN := Zh (allO_snoc okD xs q o ho); have HMI := Zh (allO_miss okD xs q o ho); have hqI : (q : Int) < (len : Int) := by omega
                 obtain ⟨od, ou, oc, ok, ov⟩ := o; simp only at c0 c1 c2 c3 c4; clear ho
                 cases od with
                 | false =>
                  have HN := Zh (show (xs.take (q + 1)).all okD = true by rw [HSN.out, HAL.out]; rfl); clear HSN HMI
                  go_wp2
                  go_roundw
                  case rel => exact ⟨q + 1, by omega, by go_num, HN.out, HXA.out⟩
                  case measure => simp [intOf]; omega
                 | true =>
                  cases hz : oc.toList.isEmpty with
                  | true =>
                   have HN := Zh (show (xs.take (q + 1)).all okD = true by rw [HSN.out, HAL.out]; unfold okD nz; simp only [hz]; rfl); clear HSN HMI
                   go_wp2
                   go_roundw
                   case rel => exact ⟨q + 1, by omega, by go_num, HN.out, HXA.out⟩
                   case measure => simp [intOf]; omega
                  | false =>
                   have H0 := Zh (show r = 1 by rw [HR.out]; exact cq_d HKB.out (HMI.out (by unfold okD nz; simp only [hz]; rfl))); clear HSN HMI
                   go_wp2
                   go_ret
                   exact ⟨by rw [H0.out]; rfl, HXA.out.bel⟩
                ·
                 have hqI : ¬ (q : Int) < (len : Int) := by omega
                 have HD1 := Zh (allO_full okD xs q (by omega) HAL.out); clear HAL
                 go_upto_region 14 with fail
                 apply wp_region_lit
                 refine wpList_piece 7 (fun a w a' w' => ∃ (v161 v162 v163 v164 v165 v166 : Value) (b167 : Bool), b167 = (b4 && !n1) ∧ a' = (((((((a.put (some 161) v161).put (some 162) v162).put (some 163) v163).put (some 164) v164).put (some 165) v165).put (some 166) v166).put (some 167) (.bool b167)) ∧ w' = w) ?_ ?_
                 ·
                  intro K hGo; simp only [List.take_succ_cons, List.take_zero]
                  cases b4 with
                  | false =>
                   go_wp2_with fail
                   all_goals first | rfl | decide | (simp [nz, nzC, nzI, hT, hC, hU, hK, hN, hO, hW, hM, hI]; done) | (simp [nz, nzC, nzI, hT, hC, hU, hK, hN, hO, hW, hM, hI]; omega) | (rw [Bool.eq_iff_iff]; simp [hT, hC, hU, hK, hN, hO, hW, hM, hI] <;> omega)
                  | true =>
                   go_wp2_with fail
                   refine (M1.out _).mono ?_; rintro _ x5 ⟨rfl, hw5⟩; subst hw5
                   go_wp2_with fail
                   all_goals first | rfl | decide | (simp [nz, nzC, nzI, hT, hC, hU, hK, hN, hO, hW, hM, hI]; done) | (simp [nz, nzC, nzI, hT, hC, hU, hK, hN, hO, hW, hM, hI]; omega) | (rw [Bool.eq_iff_iff]; simp [hT, hC, hU, hK, hN, hO, hW, hM, hI] <;> omega)
                 ·
                  rintro _ _ ⟨v161, v162, v163, v164, v165, v166, b167, e167, rfl, rfl⟩; simp only [Act.put, List.setIfInBounds_toArray, List.set_cons_zero, List.set_cons_succ, List.drop_succ_cons, List.drop_zero]; have E167 := Zh e167; clear e167; refine wpList_piece 9 (fun a w a' w' => ∃ (v168 v169 v170 v171 v172 v173 v174 v175 : Value) (b176 : Bool), b176 = (b167 || b5 && !n2) ∧ a' = (((((((((a.put (some 168) v168).put (some 169) v169).put (some 170) v170).put (some 171) v171).put (some 172) v172).put (some 173) v173).put (some 174) v174).put (some 175) v175).put (some 176) (.bool b176)) ∧ w' = w) ?_ ?_
                  ·
                   intro K hGo; simp only [List.take_succ_cons, List.take_zero]
                   cases b167 with
                   | true =>
                    go_wp2_with fail
                    all_goals first | rfl | decide | (simp [nz, nzC, nzI, hT, hC, hU, hK, hN, hO, hW, hM, hI]; done) | (simp [nz, nzC, nzI, hT, hC, hU, hK, hN, hO, hW, hM, hI]; omega) | (rw [Bool.eq_iff_iff]; simp [hT, hC, hU, hK, hN, hO, hW, hM, hI] <;> omega)
                   | false =>
                    cases b5 with
                    | false =>
                     go_wp2_with fail
                     all_goals first | rfl | decide | (simp [nz, nzC, nzI, hT, hC, hU, hK, hN, hO, hW, hM, hI]; done) | (simp [nz, nzC, nzI, hT, hC, hU, hK, hN, hO, hW, hM, hI]; omega) | (rw [Bool.eq_iff_iff]; simp [hT, hC, hU, hK, hN, hO, hW, hM, hI] <;> omega)
                    | true =>
                     go_wp2_with fail
                     refine (M2.out _).mono ?_; rintro _ x5 ⟨rfl, hw5⟩; subst hw5
                     go_wp2_with fail
                     all_goals first | rfl | decide | (simp [nz, nzC, nzI, hT, hC, hU, hK, hN, hO, hW, hM, hI]; done) | (simp [nz, nzC, nzI, hT, hC, hU, hK, hN, hO, hW, hM, hI]; omega) | (rw [Bool.eq_iff_iff]; simp [hT, hC, hU, hK, hN, hO, hW, hM, hI] <;> omega)
                  ·
                   rintro _ _ ⟨v168, v169, v170, v171, v172, v173, v174, v175, b176, e176, rfl, rfl⟩; simp only [Act.put, List.setIfInBounds_toArray, List.set_cons_zero, List.set_cons_succ, List.drop_succ_cons, List.drop_zero]; have E176 := Zh e176; clear e176; refine wpList_piece 9 (fun a w a' w' => ∃ (v177 v178 v179 v180 v181 v182 v183 v184 : Value) (b185 : Bool), b185 = (b176 || b6 && !n3) ∧ a' = (((((((((a.put (some 177) v177).put (some 178) v178).put (some 179) v179).put (some 180) v180).put (some 181) v181).put (some 182) v182).put (some 183) v183).put (some 184) v184).put (some 185) (.bool b185)) ∧ w' = w) ?_ ?_
                   ·
                    intro K hGo; simp only [List.take_succ_cons, List.take_zero]
                    cases b176 with
                    | true =>
                     go_wp2_with fail
                     all_goals first | rfl | decide | (simp [nz, nzC, nzI, hT, hC, hU, hK, hN, hO, hW, hM, hI]; done) | (simp [nz, nzC, nzI, hT, hC, hU, hK, hN, hO, hW, hM, hI]; omega) | (rw [Bool.eq_iff_iff]; simp [hT, hC, hU, hK, hN, hO, hW, hM, hI] <;> omega)
                    | false =>
                     cases b6 with
                     | false =>
                      go_wp2_with fail
                      all_goals first | rfl | decide | (simp [nz, nzC, nzI, hT, hC, hU, hK, hN, hO, hW, hM, hI]; done) | (simp [nz, nzC, nzI, hT, hC, hU, hK, hN, hO, hW, hM, hI]; omega) | (rw [Bool.eq_iff_iff]; simp [hT, hC, hU, hK, hN, hO, hW, hM, hI] <;> omega)
                     | true =>
                      go_wp2_with fail
                      refine (M3.out _).mono ?_; rintro _ x5 ⟨rfl, hw5⟩; subst hw5
                      go_wp2_with fail
                      all_goals first | rfl | decide | (simp [nz, nzC, nzI, hT, hC, hU, hK, hN, hO, hW, hM, hI]; done) | (simp [nz, nzC, nzI, hT, hC, hU, hK, hN, hO, hW, hM, hI]; omega) | (rw [Bool.eq_iff_iff]; simp [hT, hC, hU, hK, hN, hO, hW, hM, hI] <;> omega)
                   ·
                    rintro _ _ ⟨v177, v178, v179, v180, v181, v182, v183, v184, b185, e185, rfl, rfl⟩; simp only [Act.put, List.setIfInBounds_toArray, List.set_cons_zero, List.set_cons_succ, List.drop_succ_cons, List.drop_zero]; have E185 := Zh e185; clear e185; have EN := Zh (show headN ⟨k, t, co, u, c, ck, cv, xs, tok, mo, ti⟩ = !b185 by rw [HHN.out, E185.out, E176.out, E167.out, E4.out, E5.out, E6.out]); clear E185 E176 E167
                    cases b185 with
                    | true =>
                     have H0 := Zh (show r = 3 by rw [HR.out]; exact cq_n HKB.out EX.out HD1.out (by rw [EN.out]; rfl))
                     go_wp2
                     go_ret
                     exact ⟨by rw [H0.out]; rfl, HXA.out.bel⟩
                    | false =>
                     clear hqI hql hq
                     go_wp2_with fail
                     go_loopw [11] (fun i wr => ∃ q : Nat, q ≤ len ∧ i = .int .i64 (q : Int) ∧ (xs.take q).all okU = true ∧ Bxs w wr [(w.heap.size, 26, #[.int .i64 k, .string t, .string co, .string u, .string c, .int .i64 ck, .int .i64 cv, .slice A len cap, .int .i64 tok, .int .i64 mo, .int .i64 ti])]) (fun i _ => len - (intOf i).toNat)
                     case atStart => exact ⟨0, Nat.zero_le _, rfl, by simp, HXA.out⟩
                     case round =>
                      obtain ⟨q, hq, rfl, hall, hB⟩ := hrel; have HXB := Zh hB; have HAL := Zh hall; clear hall hB; obtain ⟨l0, l1, l2, l3, l4, l5, l6, l7, l8, l9, l10⟩ := cs11 (HXB.out.get 0 rfl); simp only [List.getElem?_toArray, List.getElem?_cons_zero, List.getElem?_cons_succ] at l0 l1 l2 l3 l4 l5 l6 l7 l8 l9 l10
                      by_cases hql : q < len
                      ·
                       obtain ⟨o, ho⟩ : ∃ o, xs[q]? = some o := ⟨xs[q]'(by rw [hlen]; exact hql), List.getElem?_eq_getElem _⟩; obtain ⟨rfl, hbl⟩ := HI.out.addr (by omega); obtain ⟨c0, c1, c2, c3, c4⟩ := (HI.out.below HXB.out.bel (fun _ => hbl)).cell q o ho; have HSN := Zh (allO_snoc okU xs q o ho); have HMI := Zh (allO_miss okU xs q o ho); have hqI : (q : Int) < (len : Int) := by omega
                       have HU := Zh (fun W => Id.ruid_any o.u W (by unfold maxLen; have := (HZ.out o (List.mem_of_getElem? ho)).u; omega)); obtain ⟨od, ou, oc, ok, ov⟩ := o; simp only at c0 c1 c2 c3 c4 HU; clear ho; obtain ⟨nu, hnu⟩ : ∃ r, Id.uidB ou.data.toList = r := ⟨_, rfl⟩; have HNU := Zh (show okU ⟨od, ou, oc, ok, ov⟩ = nu from hnu); rw [hnu] at HU; clear hnu
                       cases nu with
                       | true =>
                        have HN := Zh (show (xs.take (q + 1)).all okU = true by rw [HSN.out, HAL.out, HNU.out]; rfl); clear HSN HMI
                        go_wp2_with fail
                        refine (HU.out _).mono ?_; rintro _ x5 ⟨rfl, hw5⟩; subst hw5
                        go_wp2
                        go_roundw
                        case rel => exact ⟨q + 1, by omega, by go_num, HN.out, HXB.out⟩
                        case measure => simp [intOf]; omega
                       | false =>
                        have H0 := Zh (show r = 3 by rw [HR.out]; exact cq_n HKB.out EX.out HD1.out (by rw [Bool.and_eq_false_iff]; exact .inr (HMI.out HNU.out))); clear HSN HMI
                        go_wp2_with fail
                        refine (HU.out _).mono ?_; rintro _ x5 ⟨rfl, hw5⟩; subst hw5
                        go_wp2
                        go_ret
                        exact ⟨by rw [H0.out]; rfl, HXB.out.bel⟩
                      ·
                       have hqI : ¬ (q : Int) < (len : Int) := by omega
                       have HU1 := Zh (show (headN ⟨k, t, co, u, c, ck, cv, xs, tok, mo, ti⟩ && xs.all okU) = true by rw [EN.out, allO_full okU xs q (by omega) HAL.out]; rfl); clear HAL
                       go_upto_region 21 with fail
                       apply wp_region_lit
                       refine wpList_piece 7 (fun a w a' w' => ∃ (v201 v202 v203 v204 v205 v206 : Value) (b207 : Bool), b207 = (b7 && !n4) ∧ a' = (((((((a.put (some 201) v201).put (some 202) v202).put (some 203) v203).put (some 204) v204).put (some 205) v205).put (some 206) v206).put (some 207) (.bool b207)) ∧ Below w.heap.size w w') ?_ ?_
                       ·
                        intro K hGo; simp only [List.take_succ_cons, List.take_zero]
                        cases b7 with
                        | false =>
                         go_wp2_with fail
                         all_goals first | exact Below.refl _ _ | (simp only [Act.put, List.setIfInBounds_toArray, List.set_cons_zero, List.set_cons_succ]; refine ⟨_, _, _, _, _, _, _, ?_, rfl, hw5⟩; rfl) | (simp only [Act.put, List.setIfInBounds_toArray, List.set_cons_zero, List.set_cons_succ]; refine ⟨_, _, _, _, _, _, _, _, _, ?_, rfl, hw5⟩; rfl)
                        | true =>
                         go_wp2_with fail
                         refine (M4.out _).mono ?_; rintro _ x5 ⟨rfl, hw5⟩
                         go_wp2_with fail
                         all_goals first | exact Below.refl _ _ | (simp only [Act.put, List.setIfInBounds_toArray, List.set_cons_zero, List.set_cons_succ]; refine ⟨_, _, _, _, _, _, _, ?_, rfl, hw5⟩; rfl) | (simp only [Act.put, List.setIfInBounds_toArray, List.set_cons_zero, List.set_cons_succ]; refine ⟨_, _, _, _, _, _, _, _, _, ?_, rfl, hw5⟩; rfl)
                       ·
                        rintro _ W1 ⟨v201, v202, v203, v204, v205, v206, b207, e207, rfl, hbW1⟩; simp only [Act.put, List.setIfInBounds_toArray, List.set_cons_zero, List.set_cons_succ, List.drop_succ_cons, List.drop_zero]; have E207 := Zh e207; clear e207; have HX1 := Zh (HXB.out.step hbW1); obtain ⟨f0, f1, f2, f3, f4, f5, f6, f7, f8, f9, f10⟩ := cs11 (HX1.out.get 0 rfl); simp only [List.getElem?_toArray, List.getElem?_cons_zero, List.getElem?_cons_succ] at f0 f1 f2 f3 f4 f5 f6 f7 f8 f9 f10; refine wpList_piece 9 (fun a w a' w' => ∃ (v208 v209 v210 v211 v212 v213 v214 v215 : Value) (b216 : Bool), b216 = (b207 || b8 && !n5) ∧ a' = (((((((((a.put (some 208) v208).put (some 209) v209).put (some 210) v210).put (some 211) v211).put (some 212) v212).put (some 213) v213).put (some 214) v214).put (some 215) v215).put (some 216) (.bool b216)) ∧ Below w.heap.size w w') ?_ ?_
                        ·
                         intro K hGo; simp only [List.take_succ_cons, List.take_zero]
                         cases b207 with
                         | true =>
                          go_wp2_with fail
                          all_goals first | exact Below.refl _ _ | (simp only [Act.put, List.setIfInBounds_toArray, List.set_cons_zero, List.set_cons_succ]; refine ⟨_, _, _, _, _, _, _, ?_, rfl, hw5⟩; rfl) | (simp only [Act.put, List.setIfInBounds_toArray, List.set_cons_zero, List.set_cons_succ]; refine ⟨_, _, _, _, _, _, _, _, _, ?_, rfl, hw5⟩; rfl)
                         | false =>
                          cases b8 with
                          | false =>
                           go_wp2_with fail
                           all_goals first | exact Below.refl _ _ | (simp only [Act.put, List.setIfInBounds_toArray, List.set_cons_zero, List.set_cons_succ]; refine ⟨_, _, _, _, _, _, _, ?_, rfl, hw5⟩; rfl) | (simp only [Act.put, List.setIfInBounds_toArray, List.set_cons_zero, List.set_cons_succ]; refine ⟨_, _, _, _, _, _, _, _, _, ?_, rfl, hw5⟩; rfl)
                          | true =>
                           go_wp2_with fail
                           refine (M5.out _).mono ?_; rintro _ x5 ⟨rfl, hw5⟩
                           go_wp2_with fail
                           all_goals first | exact Below.refl _ _ | (simp only [Act.put, List.setIfInBounds_toArray, List.set_cons_zero, List.set_cons_succ]; refine ⟨_, _, _, _, _, _, _, ?_, rfl, hw5⟩; rfl) | (simp only [Act.put, List.setIfInBounds_toArray, List.set_cons_zero, List.set_cons_succ]; refine ⟨_, _, _, _, _, _, _, _, _, ?_, rfl, hw5⟩; rfl)
                        ·
                         rintro _ W2 ⟨v208, v209, v210, v211, v212, v213, v214, v215, b216, e216, rfl, hbW2⟩; simp only [Act.put, List.setIfInBounds_toArray, List.set_cons_zero, List.set_cons_succ, List.drop_succ_cons, List.drop_zero]; have E216 := Zh e216; clear e216; have HX2 := Zh (HX1.out.step hbW2); obtain ⟨g0, g1, g2, g3, g4, g5, g6, g7, g8, g9, g10⟩ := cs11 (HX2.out.get 0 rfl); simp only [List.getElem?_toArray, List.getElem?_cons_zero, List.getElem?_cons_succ] at g0 g1 g2 g3 g4 g5 g6 g7 g8 g9 g10; clear hbW1 hbW2; have EF := Zh (show headF ⟨k, t, co, u, c, ck, cv, xs, tok, mo, ti⟩ = !b216 by rw [HHF.out EX.out, E216.out, E207.out, E7.out, E8.out]); clear E216 E207
                         cases b216 with
                         | true =>
                          have H0 := Zh (show r = 1 by rw [HR.out]; exact cq_f HKB.out EX.out HD1.out HU1.out (by rw [EF.out]; rfl))
                          go_wp2
                          go_ret
                          exact ⟨by rw [H0.out]; rfl, HX2.out.bel⟩
                         | false =>
                          clear hqI hql hq
                          go_wp2_with fail
                          go_loopw [12] (fun i wr => ∃ q : Nat, q ≤ len ∧ i = .int .i64 (q : Int) ∧ (xs.take q).all okF = true ∧ Bxs w wr [(w.heap.size, 26, #[.int .i64 k, .string t, .string co, .string u, .string c, .int .i64 ck, .int .i64 cv, .slice A len cap, .int .i64 tok, .int .i64 mo, .int .i64 ti])]) (fun i _ => len - (intOf i).toNat)
                          case atStart => exact ⟨0, Nat.zero_le _, rfl, by simp, HX2.out⟩
                          case round =>
                           obtain ⟨q, hq, rfl, hall, hB⟩ := hrel; have HXR := Zh hB; have HAL := Zh hall; clear hall hB; obtain ⟨d0, d1, d2, d3, d4, d5, d6, d7, d8, d9, d10⟩ := cs11 (HXR.out.get 0 rfl); simp only [List.getElem?_toArray, List.getElem?_cons_zero, List.getElem?_cons_succ] at d0 d1 d2 d3 d4 d5 d6 d7 d8 d9 d10
                           by_cases hql : q < len
                           ·
                            obtain ⟨o, ho⟩ : ∃ o, xs[q]? = some o := ⟨xs[q]'(by rw [hlen]; exact hql), List.getElem?_eq_getElem _⟩; obtain ⟨rfl, hbl⟩ := HI.out.addr (by omega); obtain ⟨c0, c1, c2, c3, c4⟩ := (HI.out.below HXR.out.bel (fun _ => hbl)).cell q o ho; have HSN := Zh (allO_snoc okF xs q o ho); have HMI := Zh (allO_miss okF xs q o ho); have hqI : (q : Int) < (len : Int) := by omega
                            have HSZ := Zh (HZ.out o (List.mem_of_getElem? ho)); obtain ⟨od, ou, oc, ok, ov⟩ := o; simp only at c0 c1 c2 c3 c4; clear ho; have HC := Zh (fun W => ris_any oc HSZ.out.c W); have HM := Zh (fun W => Et.rmay_any ok ov W); obtain ⟨nc, hnc⟩ : ∃ r, isC oc = r := ⟨_, rfl⟩; obtain ⟨nm, hnm⟩ : ∃ r, Et.mayB ok ov = r := ⟨_, rfl⟩; have HNF := Zh (show okF ⟨od, ou, oc, ok, ov⟩ = ((od || nc) && nm) by unfold okF; simp only [hnc, hnm]); rw [hnc] at HC; rw [hnm] at HM; clear hnc hnm; have HQ0 := Zh ((Bxs.start wr).new 43 #[.bool od, .string ou, .string oc, .int .i64 ok, .int .i64 ov]); have ways : (od = true ∧ nm = true) ∨ (od = false ∧ nc = true ∧ nm = true) ∨ (od = true ∧ nm = false) ∨ (od = false ∧ nc = true ∧ nm = false) ∨ (od = false ∧ nc = false) := by
                             cases od <;> cases nc <;> cases nm <;> simp
                            rcases ways with ⟨rfl, rfl⟩ | ⟨rfl, rfl, rfl⟩ | ⟨rfl, rfl⟩ | ⟨rfl, rfl, rfl⟩ | ⟨rfl, rfl⟩
                            ·
                             have HN := Zh (show (xs.take (q + 1)).all okF = true by rw [HSN.out, HAL.out, HNF.out]; simp); clear HSN HMI HNF
                             go_wp2_with fail
                             refine (HM.out _).mono ?_; rintro _ y1 ⟨rfl, hb⟩; have HQ1 := Zh (HQ0.out.step hb); clear hb; have e1_0 := (HQ1.out.get 0 rfl).cell 0; have e1_1 := (HQ1.out.get 0 rfl).cell 1; have e1_2 := (HQ1.out.get 0 rfl).cell 2; have e1_3 := (HQ1.out.get 0 rfl).cell 3; have e1_4 := (HQ1.out.get 0 rfl).cell 4; simp only [List.getElem?_toArray, List.getElem?_cons_zero, List.getElem?_cons_succ] at e1_0 e1_1 e1_2 e1_3 e1_4; have HBN := Zh (HXR.out.step HQ1.out.bel)
                             go_wp2
                             go_roundw
                             case rel => exact ⟨q + 1, by omega, by go_num, HN.out, HBN.out⟩
                             case measure => simp [intOf]; omega
                            ·
                             have HN := Zh (show (xs.take (q + 1)).all okF = true by rw [HSN.out, HAL.out, HNF.out]; simp); clear HSN HMI HNF
                             go_wp2_with fail
                             refine (HC.out _).mono ?_; rintro _ y1 ⟨rfl, hb⟩; have HQ1 := Zh (HQ0.out.step hb); clear hb; have e1_0 := (HQ1.out.get 0 rfl).cell 0; have e1_1 := (HQ1.out.get 0 rfl).cell 1; have e1_2 := (HQ1.out.get 0 rfl).cell 2; have e1_3 := (HQ1.out.get 0 rfl).cell 3; have e1_4 := (HQ1.out.get 0 rfl).cell 4; simp only [List.getElem?_toArray, List.getElem?_cons_zero, List.getElem?_cons_succ] at e1_0 e1_1 e1_2 e1_3 e1_4
                             go_wp2_with fail
                             refine (HM.out _).mono ?_; rintro _ y2 ⟨rfl, hb⟩; have HQ2 := Zh (HQ1.out.step hb); clear hb; have e2_0 := (HQ2.out.get 0 rfl).cell 0; have e2_1 := (HQ2.out.get 0 rfl).cell 1; have e2_2 := (HQ2.out.get 0 rfl).cell 2; have e2_3 := (HQ2.out.get 0 rfl).cell 3; have e2_4 := (HQ2.out.get 0 rfl).cell 4; simp only [List.getElem?_toArray, List.getElem?_cons_zero, List.getElem?_cons_succ] at e2_0 e2_1 e2_2 e2_3 e2_4; have HBN := Zh (HXR.out.step HQ2.out.bel)
                             go_wp2
                             go_roundw
                             case rel => exact ⟨q + 1, by omega, by go_num, HN.out, HBN.out⟩
                             case measure => simp [intOf]; omega
                            ·
                             have H0 := Zh (show r = 1 by rw [HR.out]; exact cq_f HKB.out EX.out HD1.out HU1.out (by rw [Bool.and_eq_false_iff]; exact .inr (HMI.out (by rw [HNF.out]; simp)))); clear HSN HMI HNF
                             go_wp2_with fail
                             refine (HM.out _).mono ?_; rintro _ y1 ⟨rfl, hb⟩; have HQ1 := Zh (HQ0.out.step hb); clear hb; have e1_0 := (HQ1.out.get 0 rfl).cell 0; have e1_1 := (HQ1.out.get 0 rfl).cell 1; have e1_2 := (HQ1.out.get 0 rfl).cell 2; have e1_3 := (HQ1.out.get 0 rfl).cell 3; have e1_4 := (HQ1.out.get 0 rfl).cell 4; simp only [List.getElem?_toArray, List.getElem?_cons_zero, List.getElem?_cons_succ] at e1_0 e1_1 e1_2 e1_3 e1_4; have HBN := Zh (HXR.out.step HQ1.out.bel)
                             go_wp2
                             go_ret
                             exact ⟨by rw [H0.out]; rfl, HBN.out.bel⟩
                            ·
                             have H0 := Zh (show r = 1 by rw [HR.out]; exact cq_f HKB.out EX.out HD1.out HU1.out (by rw [Bool.and_eq_false_iff]; exact .inr (HMI.out (by rw [HNF.out]; simp)))); clear HSN HMI HNF
                             go_wp2_with fail
                             refine (HC.out _).mono ?_; rintro _ y1 ⟨rfl, hb⟩; have HQ1 := Zh (HQ0.out.step hb); clear hb; have e1_0 := (HQ1.out.get 0 rfl).cell 0; have e1_1 := (HQ1.out.get 0 rfl).cell 1; have e1_2 := (HQ1.out.get 0 rfl).cell 2; have e1_3 := (HQ1.out.get 0 rfl).cell 3; have e1_4 := (HQ1.out.get 0 rfl).cell 4; simp only [List.getElem?_toArray, List.getElem?_cons_zero, List.getElem?_cons_succ] at e1_0 e1_1 e1_2 e1_3 e1_4
                             go_wp2_with fail
                             refine (HM.out _).mono ?_; rintro _ y2 ⟨rfl, hb⟩; have HQ2 := Zh (HQ1.out.step hb); clear hb; have e2_0 := (HQ2.out.get 0 rfl).cell 0; have e2_1 := (HQ2.out.get 0 rfl).cell 1; have e2_2 := (HQ2.out.get 0 rfl).cell 2; have e2_3 := (HQ2.out.get 0 rfl).cell 3; have e2_4 := (HQ2.out.get 0 rfl).cell 4; simp only [List.getElem?_toArray, List.getElem?_cons_zero, List.getElem?_cons_succ] at e2_0 e2_1 e2_2 e2_3 e2_4; have HBN := Zh (HXR.out.step HQ2.out.bel)
                             go_wp2
                             go_ret
                             exact ⟨by rw [H0.out]; rfl, HBN.out.bel⟩
                            ·
                             have H0 := Zh (show r = 1 by rw [HR.out]; exact cq_f HKB.out EX.out HD1.out HU1.out (by rw [Bool.and_eq_false_iff]; exact .inr (HMI.out (by rw [HNF.out]; simp)))); clear HSN HMI HNF
                             go_wp2_with fail
                             refine (HC.out _).mono ?_; rintro _ y1 ⟨rfl, hb⟩; have HQ1 := Zh (HQ0.out.step hb); clear hb; have e1_0 := (HQ1.out.get 0 rfl).cell 0; have e1_1 := (HQ1.out.get 0 rfl).cell 1; have e1_2 := (HQ1.out.get 0 rfl).cell 2; have e1_3 := (HQ1.out.get 0 rfl).cell 3; have e1_4 := (HQ1.out.get 0 rfl).cell 4; simp only [List.getElem?_toArray, List.getElem?_cons_zero, List.getElem?_cons_succ] at e1_0 e1_1 e1_2 e1_3 e1_4; have HBN := Zh (HXR.out.step HQ1.out.bel)
                             go_wp2
                             go_ret
                             exact ⟨by rw [H0.out]; rfl, HBN.out.bel⟩
                           ·
                            have hqI : ¬ (q : Int) < (len : Int) := by omega
                            have HF1 := Zh (show (headF ⟨k, t, co, u, c, ck, cv, xs, tok, mo, ti⟩ && xs.all okF) = true by rw [EF.out, allO_full okF xs q (by omega) HAL.out]; rfl); clear HAL
                            go_upto_region 29 with fail
                            apply wp_region_lit
                            refine wpList_piece 14 (fun a w a' w' => ∃ (v244 v245 v246 v247 v248 v249 v250 v251 v252 v253 v254 v255 v256 : Value) (b257 : Bool), b257 = (hO k && (decide ((len : Int) < 1) || decide ((len : Int) > 8))) ∧ a' = ((((((((((((((a.put (some 244) v244).put (some 245) v245).put (some 246) v246).put (some 247) v247).put (some 248) v248).put (some 249) v249).put (some 250) v250).put (some 251) v251).put (some 252) v252).put (some 253) v253).put (some 254) v254).put (some 255) v255).put (some 256) v256).put (some 257) (.bool b257)) ∧ w' = w) ?_ ?_
                            ·
                             intro K hGo; simp only [List.take_succ_cons, List.take_zero]
                             by_cases hkt : k = 7
                             ·
                              subst hkt
                              go_wp2_with fail
                              all_goals first | rfl | decide | (simp [nz, nzC, nzI, hT, hC, hU, hK, hN, hO, hW, hM, hI]; done) | (simp [nz, nzC, nzI, hT, hC, hU, hK, hN, hO, hW, hM, hI]; omega) | (rw [Bool.eq_iff_iff]; simp [hT, hC, hU, hK, hN, hO, hW, hM, hI] <;> omega)
                             ·
                              have hkf : hO k = false := by unfold hO; simp; omega
                              go_wp2_with fail
                              all_goals first | rfl | decide | (simp [nz, nzC, nzI, hT, hC, hU, hK, hN, hO, hW, hM, hI]; done) | (simp [nz, nzC, nzI, hT, hC, hU, hK, hN, hO, hW, hM, hI]; omega) | (rw [Bool.eq_iff_iff]; simp [hT, hC, hU, hK, hN, hO, hW, hM, hI] <;> omega)
                            ·
                             rintro _ _ ⟨v244, v245, v246, v247, v248, v249, v250, v251, v252, v253, v254, v255, v256, b257, e257, rfl, rfl⟩; simp only [Act.put, List.setIfInBounds_toArray, List.set_cons_zero, List.set_cons_succ, List.drop_succ_cons, List.drop_zero]; have E257 := Zh e257; clear e257; refine wpList_piece 5 (fun a w a' w' => ∃ (v258 v259 v260 v261 : Value) (b262 : Bool), b262 = (b257 || decide (tok < 0)) ∧ a' = (((((a.put (some 258) v258).put (some 259) v259).put (some 260) v260).put (some 261) v261).put (some 262) (.bool b262)) ∧ w' = w) ?_ ?_
                             ·
                              intro K hGo; simp only [List.take_succ_cons, List.take_zero]
                              cases b257 with
                              | true =>
                               go_wp2_with fail
                               all_goals first | rfl | decide | (simp [nz, nzC, nzI, hT, hC, hU, hK, hN, hO, hW, hM, hI]; done) | (simp [nz, nzC, nzI, hT, hC, hU, hK, hN, hO, hW, hM, hI]; omega) | (rw [Bool.eq_iff_iff]; simp [hT, hC, hU, hK, hN, hO, hW, hM, hI] <;> omega)
                              | false =>
                               go_wp2_with fail
                               all_goals first | rfl | decide | (simp [nz, nzC, nzI, hT, hC, hU, hK, hN, hO, hW, hM, hI]; done) | (simp [nz, nzC, nzI, hT, hC, hU, hK, hN, hO, hW, hM, hI]; omega) | (rw [Bool.eq_iff_iff]; simp [hT, hC, hU, hK, hN, hO, hW, hM, hI] <;> omega)
                             ·
                              rintro _ _ ⟨v258, v259, v260, v261, b262, e262, rfl, rfl⟩; simp only [Act.put, List.setIfInBounds_toArray, List.set_cons_zero, List.set_cons_succ, List.drop_succ_cons, List.drop_zero]; have E262 := Zh e262; clear e262; refine wpList_piece 14 (fun a w a' w' => ∃ (v263 v264 v265 v266 v267 v268 v269 v270 v271 v272 v273 v274 v275 : Value) (b276 : Bool), b276 = (b262 || hM k && (decide (mo < 1) || decide (mo > 1000))) ∧ a' = ((((((((((((((a.put (some 263) v263).put (some 264) v264).put (some 265) v265).put (some 266) v266).put (some 267) v267).put (some 268) v268).put (some 269) v269).put (some 270) v270).put (some 271) v271).put (some 272) v272).put (some 273) v273).put (some 274) v274).put (some 275) v275).put (some 276) (.bool b276)) ∧ w' = w) ?_ ?_
                              ·
                               intro K hGo; simp only [List.take_succ_cons, List.take_zero]
                               cases b262 with
                               | true =>
                                go_wp2_with fail
                                all_goals first | rfl | decide | (simp [nz, nzC, nzI, hT, hC, hU, hK, hN, hO, hW, hM, hI]; done) | (simp [nz, nzC, nzI, hT, hC, hU, hK, hN, hO, hW, hM, hI]; omega) | (rw [Bool.eq_iff_iff]; simp [hT, hC, hU, hK, hN, hO, hW, hM, hI] <;> omega)
                               | false =>
                                by_cases hkt : k = 8
                                ·
                                 subst hkt
                                 go_wp2_with fail
                                 all_goals first | rfl | decide | (simp [nz, nzC, nzI, hT, hC, hU, hK, hN, hO, hW, hM, hI]; done) | (simp [nz, nzC, nzI, hT, hC, hU, hK, hN, hO, hW, hM, hI]; omega) | (rw [Bool.eq_iff_iff]; simp [hT, hC, hU, hK, hN, hO, hW, hM, hI] <;> omega)
                                ·
                                 have hkf : hM k = false := by unfold hM; simp; omega
                                 go_wp2_with fail
                                 all_goals first | rfl | decide | (simp [nz, nzC, nzI, hT, hC, hU, hK, hN, hO, hW, hM, hI]; done) | (simp [nz, nzC, nzI, hT, hC, hU, hK, hN, hO, hW, hM, hI]; omega) | (rw [Bool.eq_iff_iff]; simp [hT, hC, hU, hK, hN, hO, hW, hM, hI] <;> omega)
                              ·
                               rintro _ _ ⟨v263, v264, v265, v266, v267, v268, v269, v270, v271, v272, v273, v274, v275, b276, e276, rfl, rfl⟩; simp only [Act.put, List.setIfInBounds_toArray, List.set_cons_zero, List.set_cons_succ, List.drop_succ_cons, List.drop_zero]; have E276 := Zh e276; clear e276; refine wpList_piece 5 (fun a w a' w' => ∃ (v277 v278 v279 v280 : Value) (b281 : Bool), b281 = (b276 || decide (ti < 0)) ∧ a' = (((((a.put (some 277) v277).put (some 278) v278).put (some 279) v279).put (some 280) v280).put (some 281) (.bool b281)) ∧ w' = w) ?_ ?_
                               ·
                                intro K hGo; simp only [List.take_succ_cons, List.take_zero]
                                cases b276 with
                                | true =>
                                 go_wp2_with fail
                                 all_goals first | rfl | decide | (simp [nz, nzC, nzI, hT, hC, hU, hK, hN, hO, hW, hM, hI]; done) | (simp [nz, nzC, nzI, hT, hC, hU, hK, hN, hO, hW, hM, hI]; omega) | (rw [Bool.eq_iff_iff]; simp [hT, hC, hU, hK, hN, hO, hW, hM, hI] <;> omega)
                                | false =>
                                 go_wp2_with fail
                                 all_goals first | rfl | decide | (simp [nz, nzC, nzI, hT, hC, hU, hK, hN, hO, hW, hM, hI]; done) | (simp [nz, nzC, nzI, hT, hC, hU, hK, hN, hO, hW, hM, hI]; omega) | (rw [Bool.eq_iff_iff]; simp [hT, hC, hU, hK, hN, hO, hW, hM, hI] <;> omega)
                               ·
                                rintro _ _ ⟨v277, v278, v279, v280, b281, e281, rfl, rfl⟩; simp only [Act.put, List.setIfInBounds_toArray, List.set_cons_zero, List.set_cons_succ, List.drop_succ_cons, List.drop_zero]; have E281 := Zh e281; clear e281; refine wpList_piece 5 (fun a w a' w' => ∃ (v282 v283 v284 v285 : Value) (b286 : Bool), b286 = (b281 || decide (ti > 1048576)) ∧ a' = (((((a.put (some 282) v282).put (some 283) v283).put (some 284) v284).put (some 285) v285).put (some 286) (.bool b286)) ∧ w' = w) ?_ ?_
                                ·
                                 intro K hGo; simp only [List.take_succ_cons, List.take_zero]
                                 cases b281 with
                                 | true =>
                                  go_wp2_with fail
                                  all_goals first | rfl | decide | (simp [nz, nzC, nzI, hT, hC, hU, hK, hN, hO, hW, hM, hI]; done) | (simp [nz, nzC, nzI, hT, hC, hU, hK, hN, hO, hW, hM, hI]; omega) | (rw [Bool.eq_iff_iff]; simp [hT, hC, hU, hK, hN, hO, hW, hM, hI] <;> omega)
                                 | false =>
                                  go_wp2_with fail
                                  all_goals first | rfl | decide | (simp [nz, nzC, nzI, hT, hC, hU, hK, hN, hO, hW, hM, hI]; done) | (simp [nz, nzC, nzI, hT, hC, hU, hK, hN, hO, hW, hM, hI]; omega) | (rw [Bool.eq_iff_iff]; simp [hT, hC, hU, hK, hN, hO, hW, hM, hI] <;> omega)
                                ·
                                 rintro _ _ ⟨v282, v283, v284, v285, b286, e286, rfl, rfl⟩; simp only [Act.put, List.setIfInBounds_toArray, List.set_cons_zero, List.set_cons_succ, List.drop_succ_cons, List.drop_zero]; have E286 := Zh e286; clear e286; have ER := Zh (show rangQ ⟨k, t, co, u, c, ck, cv, xs, tok, mo, ti⟩ = !b286 by rw [HRQ.out, E286.out, E281.out, E276.out, E262.out, E257.out])
                                 cases b286 with
                                 | true =>
                                  have H0 := Zh (show r = 12 by rw [HR.out]; exact cq_r HKB.out EX.out HD1.out HU1.out HF1.out ER.out)
                                  go_wp2
                                  go_ret
                                  exact ⟨by rw [H0.out]; rfl, HXR.out.bel⟩
                                 | false =>
                                  have H0 := Zh (show r = 0 by rw [HR.out]; exact cq_0 HKB.out EX.out HD1.out HU1.out HF1.out ER.out)
                                  go_wp2
                                  go_ret
                                  exact ⟨by rw [H0.out]; rfl, HXR.out.bel⟩
theorem rcheck_any {q : Rq} (h : Ops w A len cap b off q.ops) (hz : SzQ q) : Calls Tryz.prog 15 #[rqV q A len cap] w fun e w' => e = .returned (.int .i64 (checkQ q)) ∧ Below w.heap.size w w' := by
 obtain ⟨k, t, co, u, c, ck, cv, ops, tok, mo, ti⟩ := q
 exact rcheck_raw h k t co u c ck cv tok mo ti hz
end
end Go.Proofs.YtphijnkiiokieaaGreatDoor
