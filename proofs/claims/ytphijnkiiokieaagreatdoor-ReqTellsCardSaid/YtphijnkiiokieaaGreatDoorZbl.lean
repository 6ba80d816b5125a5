/- Texts of one proof, joined. -/
import Derived.Test.YtphijnkiiokieaaGreatDoorZbh
set_option linter.unusedVariables false
set_option linter.unusedSimpArgs false
set_option maxRecDepth 100000
set_option maxHeartbeats 80000000
namespace Go.Proofs.YtphijnkiiokieaaGreatDoor
open Go.RowKit
open Go.Lib hiding intOf
section
variable {B : Nat} {w : World} {v : Value} {l : List UInt8}
theorem rputCond_on (h : Own 5 B w v l) (hB : B ≤ w.heap.size) (hl : l.length ≤ 500000) (k n : Int) (hk : k < 9223372036854775808) (hn : n < 9223372036854775808) : Calls Tryz.prog 27 #[v, .agg #[.int .i64 k, .int .i64 n]] w fun e w' => ∃ v', e = .returned v' ∧ Own 5 B w' v' (l ++ encC k n) ∧ Below w.heap.size w w' := by
  have HX0 := Zh (Pb.start h hB 23 #[.int .i64 k, .int .i64 n]).drew; have HH := Zh (And.intro hk hn); have l1 := encz_len k hk; have HE := Zh (show l ++ encC k n = l ++ encz k ++ encz n by unfold encC; rw [List.append_assoc]); obtain ⟨L, hL⟩ : ∃ L, l ++ encC k n = L := ⟨_, rfl⟩; rw [hL] at HE ⊢; have q0 : (w.alloc (.cells #[.int .i64 k, .int .i64 n] 23)).drew.cell? ⟨w.heap.size, 0, none⟩ = some (.int .i64 k) := HX0.out.bx.cell 0; have q1 : (w.alloc (.cells #[.int .i64 k, .int .i64 n] 23)).drew.cell? ⟨w.heap.size, 1, none⟩ = some (.int .i64 n) := HX0.out.bx.cell 1; clear h hk hn hL
  go_enter Tryz.func27, Tryz.ntmps27
  go_wp2_with fail
  go_region_held3 (fun W => W.cell? ⟨w.heap.size, 0, none⟩ = some (.int .i64 k) ∧ W.cell? ⟨w.heap.size, 1, none⟩ = some (.int .i64 n)) (refine ⟨?_, ?_⟩ <;> assumption) (first
    | (go_at_call 28
       (with_reducible refine (rnum_on HX0.out.ow HX0.out.hB (by omega) k HH.out.1).mono ?_)
       rintro _ w1 ⟨r1, rfl, h1, h2⟩; have HX1 := Zh (HX0.out.call h1 h2); have p0 : w1.cell? ⟨w.heap.size, 0, none⟩ = some (.int .i64 k) := HX1.out.bx.cell 0; have p1 : w1.cell? ⟨w.heap.size, 1, none⟩ = some (.int .i64 n) := HX1.out.bx.cell 1
       clear h1 h2)
    | (go_at_call 28
       (with_reducible refine (rnum_on HX1.out.ow HX1.out.hB (by rw [List.length_append]; omega) n HH.out.2).mono ?_)
       rintro _ w2 ⟨r2, rfl, h1, h2⟩; have HX2 := Zh (HX1.out.call h1 h2); have p0 : w2.cell? ⟨w.heap.size, 0, none⟩ = some (.int .i64 k) := HX2.out.bx.cell 0; have p1 : w2.cell? ⟨w.heap.size, 1, none⟩ = some (.int .i64 n) := HX2.out.bx.cell 1
       clear h1 h2)
    | fail)
  go_wp2
  go_ret
  exact ⟨r2, rfl, by rw [HE.out]; exact HX2.out.ow, HX2.out.bel⟩
end
theorem Pb.back {B : Nat} {w0 wr w' : World} {g g2 : Nat} {t t2 : TypeId} {cs cs2 : Array Value} {v v' : Value} {l l' : List UInt8} (h : Pb B w0 wr g t cs v l) (h2 : Pb B wr w' g2 t2 cs2 v' l') : Pb B w0 w' g t cs v' l' :=
  ⟨h.bx.below h2.bel h.bx.lt, h2.ow, h.bel.trans (h2.bel.mono h.bel.size), h2.hB⟩
section
variable {w : World} {A : Option Addr} {len cap b off : Nat} {xs : List Opn}
theorem rencode_raw (h : Ops w A len cap b off xs) (k : Int) (t co u c : ByteArray) (ck cv : Int) (tok mo ti : Int) (hz : SzQ ⟨k, t, co, u, c, ck, cv, xs, tok, mo, ti⟩) (hw : WfQ ⟨k, t, co, u, c, ck, cv, xs, tok, mo, ti⟩) :
    Calls Tryz.prog 11 #[.agg #[.int .i64 k, .string t, .string co, .string u, .string c, .int .i64 ck, .int .i64 cv, .slice A len cap, .int .i64 tok, .int .i64 mo, .int .i64 ti]] w fun e w' => ∃ v, e = .returned (.tuple #[v, .int .i64 (checkQ ⟨k, t, co, u, c, ck, cv, xs, tok, mo, ti⟩)]) ∧ (checkQ ⟨k, t, co, u, c, ck, cv, xs, tok, mo, ti⟩ ≠ 0 → v = .slice none 0 0) ∧ (checkQ ⟨k, t, co, u, c, ck, cv, xs, tok, mo, ti⟩ = 0 → Own 5 w.heap.size w' v (bytesQ ⟨k, t, co, u, c, ck, cv, xs, tok, mo, ti⟩)) ∧ Below w.heap.size w w' := by
  have HX0 := Zh (Pb.start (B := w.heap.size) (Own.nil 5 w.heap.size w none) (Nat.le_refl _) 26 #[.int .i64 k, .string t, .string co, .string u, .string c, .int .i64 ck, .int .i64 cv, .slice A len cap, .int .i64 tok, .int .i64 mo, .int .i64 ti]); have HCK := Zh (fun W (hb : Below w.heap.size w W) => rcheck_raw (h.on hb) k t co u c ck cv tok mo ti hz); have HFQ := Zh (fun h0 => fnq_of (q := ⟨k, t, co, u, c, ck, cv, xs, tok, mo, ti⟩) h0 hw); have HOK := Zh (fun h0 => check_ok (q := ⟨k, t, co, u, c, ck, cv, xs, tok, mo, ti⟩) h0); have HI := Zh h; have hlen := h.hlen; have hlc := h.le; obtain ⟨r, hr⟩ : ∃ r, checkQ ⟨k, t, co, u, c, ck, cv, xs, tok, mo, ti⟩ = r := ⟨_, rfl⟩; rw [hr] at HCK HFQ HOK ⊢
  by_cases h0 : r = 0
  · subst h0
    have hF := HFQ.out rfl; have hk : kindB k = true := (HOK.out rfl).1; have z1 : t.size ≤ 20000 := hF.t; have z2 : co.size ≤ 20000 := hF.co; have z3 : u.size ≤ 20000 := hF.u; have z4 : c.size ≤ 20000 := hF.c; have y1 : (enct t).length ≤ 20010 := by have := enct_len t (by omega); omega
    have y2 : (enct co).length ≤ 20010 := by have := enct_len co (by omega); omega
    have y3 : (enct u).length ≤ 20010 := by have := enct_len u (by omega); omega
    have y4 : (enct c).length ≤ 20010 := by have := enct_len c (by omega); omega
    have hnn : len ≤ 16 := by have : xs.length ≤ 16 := hF.n; omega
    have y5 : (encz (len : Int)).length ≤ 10 := by have := encz_len (len : Int) (by omega); omega
    have y7 : (encz tok).length ≤ 10 := by have := encz_len tok hF.tok; omega
    have y8 : (encz mo).length ≤ 10 := by have := encz_len mo hF.mo; omega
    have y9 : (encz ti).length ≤ 10 := by have := encz_len ti hF.ti; omega
    have HNM := Zh (And.intro hF.ck (And.intro hF.cv (And.intro hF.tok (And.intro hF.mo hF.ti)))); have HF := Zh hF.ops; have hnI : (len : Int) ≤ 16 := by omega
    have HHI : (len : Int) < 9223372036854775808 := by omega
    obtain ⟨BY, hBY⟩ : ∃ z, bytesQ ⟨k, t, co, u, c, ck, cv, xs, tok, mo, ti⟩ = z := ⟨_, rfl⟩; have HBY := Zh hBY; rw [hBY]; clear h hz hw hr HFQ HOK hF hBY
    rcases kind_cases hk with rfl | rfl | rfl | rfl | rfl | rfl | rfl | rfl | rfl | rfl | rfl
    · have HB := Zh (show BY = [] ++ enct t by rw [← HBY.out]; simp [bytesQ, ot, oc, oo, on, hT, hC, hU, hK, hN, hO, hW, hM, hI])
      clear hk
      go_enter Tryz.func11, Tryz.ntmps11
      go_wp2_with fail
      refine (HCK.out _ HX0.out.bel).mono ?_; rintro _ w1 ⟨rfl, hb⟩; have HX1 := Zh (HX0.out.call (HX0.out.ow.below hb) hb); clear hb; obtain ⟨a1_0, a1_1, a1_2, a1_3, a1_4, a1_5, a1_6, a1_7, a1_8, a1_9, a1_10⟩ := cs11 HX1.out.bx; simp only [List.getElem?_toArray, List.getElem?_cons_zero, List.getElem?_cons_succ] at a1_0 a1_1 a1_2 a1_3 a1_4 a1_5 a1_6 a1_7 a1_8 a1_9 a1_10
      go_wp2_with fail
      refine (rtext_on HX1.out.ow HX1.out.hB (by simp only [List.length_append, List.length_nil]; omega) t (by omega)).mono ?_; rintro _ w2 ⟨r2, rfl, h1, h2⟩; have HX2 := Zh (HX1.out.call h1 h2); clear h1 h2
      go_wp2
      go_ret2
      exact ⟨r2, rfl, fun h => absurd rfl h, fun _ => by have := HX2.out.ow; rw [HB.out]; exact this, HX2.out.bel⟩
    · have HB := Zh (show BY = [] ++ enct co by rw [← HBY.out]; simp [bytesQ, ot, oc, oo, on, hT, hC, hU, hK, hN, hO, hW, hM, hI])
      clear hk
      go_enter Tryz.func11, Tryz.ntmps11
      go_wp2_with fail
      refine (HCK.out _ HX0.out.bel).mono ?_; rintro _ w1 ⟨rfl, hb⟩; have HX1 := Zh (HX0.out.call (HX0.out.ow.below hb) hb); clear hb; obtain ⟨a1_0, a1_1, a1_2, a1_3, a1_4, a1_5, a1_6, a1_7, a1_8, a1_9, a1_10⟩ := cs11 HX1.out.bx; simp only [List.getElem?_toArray, List.getElem?_cons_zero, List.getElem?_cons_succ] at a1_0 a1_1 a1_2 a1_3 a1_4 a1_5 a1_6 a1_7 a1_8 a1_9 a1_10
      go_wp2_with fail
      refine (rtext_on HX1.out.ow HX1.out.hB (by simp only [List.length_append, List.length_nil]; omega) co (by omega)).mono ?_; rintro _ w2 ⟨r2, rfl, h1, h2⟩; have HX2 := Zh (HX1.out.call h1 h2); clear h1 h2
      go_wp2
      go_ret2
      exact ⟨r2, rfl, fun h => absurd rfl h, fun _ => by have := HX2.out.ow; rw [HB.out]; exact this, HX2.out.bel⟩
    · have HB := Zh (show BY = [] ++ enct co by rw [← HBY.out]; simp [bytesQ, ot, oc, oo, on, hT, hC, hU, hK, hN, hO, hW, hM, hI])
      clear hk
      go_enter Tryz.func11, Tryz.ntmps11
      go_wp2_with fail
      refine (HCK.out _ HX0.out.bel).mono ?_; rintro _ w1 ⟨rfl, hb⟩; have HX1 := Zh (HX0.out.call (HX0.out.ow.below hb) hb); clear hb; obtain ⟨a1_0, a1_1, a1_2, a1_3, a1_4, a1_5, a1_6, a1_7, a1_8, a1_9, a1_10⟩ := cs11 HX1.out.bx; simp only [List.getElem?_toArray, List.getElem?_cons_zero, List.getElem?_cons_succ] at a1_0 a1_1 a1_2 a1_3 a1_4 a1_5 a1_6 a1_7 a1_8 a1_9 a1_10
      go_wp2_with fail
      refine (rtext_on HX1.out.ow HX1.out.hB (by simp only [List.length_append, List.length_nil]; omega) co (by omega)).mono ?_; rintro _ w2 ⟨r2, rfl, h1, h2⟩; have HX2 := Zh (HX1.out.call h1 h2); clear h1 h2
      go_wp2
      go_ret2
      exact ⟨r2, rfl, fun h => absurd rfl h, fun _ => by have := HX2.out.ow; rw [HB.out]; exact this, HX2.out.bel⟩
    · have HB := Zh (show BY = [] ++ enct co ++ enct u ++ enct c ++ encC ck cv by rw [← HBY.out]; simp [bytesQ, ot, oc, oo, on, hT, hC, hU, hK, hN, hO, hW, hM, hI])
      clear hk
      go_enter Tryz.func11, Tryz.ntmps11
      go_wp2_with fail
      refine (HCK.out _ HX0.out.bel).mono ?_; rintro _ w1 ⟨rfl, hb⟩; have HX1 := Zh (HX0.out.call (HX0.out.ow.below hb) hb); clear hb; obtain ⟨a1_0, a1_1, a1_2, a1_3, a1_4, a1_5, a1_6, a1_7, a1_8, a1_9, a1_10⟩ := cs11 HX1.out.bx; simp only [List.getElem?_toArray, List.getElem?_cons_zero, List.getElem?_cons_succ] at a1_0 a1_1 a1_2 a1_3 a1_4 a1_5 a1_6 a1_7 a1_8 a1_9 a1_10; have HX2 := Zh HX1.out.drew; have q2 : w1.drew.cell? ⟨w.heap.size, 2, none⟩ = some (.string co) := HX2.out.bx.cell 2; have q3 : w1.drew.cell? ⟨w.heap.size, 3, none⟩ = some (.string u) := HX2.out.bx.cell 3; have q4 : w1.drew.cell? ⟨w.heap.size, 4, none⟩ = some (.string c) := HX2.out.bx.cell 4; have q5 : w1.drew.cell? ⟨w.heap.size, 5, none⟩ = some (.int .i64 ck) := HX2.out.bx.cell 5; have q6 : w1.drew.cell? ⟨w.heap.size, 6, none⟩ = some (.int .i64 cv) := HX2.out.bx.cell 6
      go_wp2_with fail
      go_region_held3 (fun W => W.cell? ⟨w.heap.size, 2, none⟩ = some (.string co) ∧ W.cell? ⟨w.heap.size, 3, none⟩ = some (.string u) ∧ W.cell? ⟨w.heap.size, 4, none⟩ = some (.string c) ∧ W.cell? ⟨w.heap.size, 5, none⟩ = some (.int .i64 ck) ∧ W.cell? ⟨w.heap.size, 6, none⟩ = some (.int .i64 cv)) (refine ⟨?_, ?_, ?_, ?_, ?_⟩ <;> assumption) (first
        | (go_at_call 26
           (with_reducible refine (rtext_on HX2.out.ow HX2.out.hB (by simp only [List.length_append, List.length_nil]; omega) co (by omega)).mono ?_)
           rintro _ w3 ⟨r3, rfl, h1, h2⟩; have HX3 := Zh (HX2.out.call h1 h2); have p2 : w3.cell? ⟨w.heap.size, 2, none⟩ = some (.string co) := HX3.out.bx.cell 2; have p3 : w3.cell? ⟨w.heap.size, 3, none⟩ = some (.string u) := HX3.out.bx.cell 3; have p4 : w3.cell? ⟨w.heap.size, 4, none⟩ = some (.string c) := HX3.out.bx.cell 4; have p5 : w3.cell? ⟨w.heap.size, 5, none⟩ = some (.int .i64 ck) := HX3.out.bx.cell 5; have p6 : w3.cell? ⟨w.heap.size, 6, none⟩ = some (.int .i64 cv) := HX3.out.bx.cell 6
           clear h1 h2)
        | (go_at_call 26
           (with_reducible refine (rtext_on HX3.out.ow HX3.out.hB (by simp only [List.length_append, List.length_nil]; omega) u (by omega)).mono ?_)
           rintro _ w4 ⟨r4, rfl, h1, h2⟩; have HX4 := Zh (HX3.out.call h1 h2); have p2 : w4.cell? ⟨w.heap.size, 2, none⟩ = some (.string co) := HX4.out.bx.cell 2; have p3 : w4.cell? ⟨w.heap.size, 3, none⟩ = some (.string u) := HX4.out.bx.cell 3; have p4 : w4.cell? ⟨w.heap.size, 4, none⟩ = some (.string c) := HX4.out.bx.cell 4; have p5 : w4.cell? ⟨w.heap.size, 5, none⟩ = some (.int .i64 ck) := HX4.out.bx.cell 5; have p6 : w4.cell? ⟨w.heap.size, 6, none⟩ = some (.int .i64 cv) := HX4.out.bx.cell 6
           clear h1 h2)
        | (go_at_call 26
           (with_reducible refine (rtext_on HX4.out.ow HX4.out.hB (by simp only [List.length_append, List.length_nil]; omega) c (by omega)).mono ?_)
           rintro _ w5 ⟨r5, rfl, h1, h2⟩; have HX5 := Zh (HX4.out.call h1 h2); have p2 : w5.cell? ⟨w.heap.size, 2, none⟩ = some (.string co) := HX5.out.bx.cell 2; have p3 : w5.cell? ⟨w.heap.size, 3, none⟩ = some (.string u) := HX5.out.bx.cell 3; have p4 : w5.cell? ⟨w.heap.size, 4, none⟩ = some (.string c) := HX5.out.bx.cell 4; have p5 : w5.cell? ⟨w.heap.size, 5, none⟩ = some (.int .i64 ck) := HX5.out.bx.cell 5; have p6 : w5.cell? ⟨w.heap.size, 6, none⟩ = some (.int .i64 cv) := HX5.out.bx.cell 6
           clear h1 h2)
        | (go_at_call 27
           (with_reducible refine (rputCond_on HX5.out.ow HX5.out.hB (by simp only [List.length_append, List.length_nil]; omega) ck cv HNM.out.1 HNM.out.2.1).mono ?_)
           rintro _ w6 ⟨r6, rfl, h1, h2⟩; have HX6 := Zh (HX5.out.call h1 h2); have p2 : w6.cell? ⟨w.heap.size, 2, none⟩ = some (.string co) := HX6.out.bx.cell 2; have p3 : w6.cell? ⟨w.heap.size, 3, none⟩ = some (.string u) := HX6.out.bx.cell 3; have p4 : w6.cell? ⟨w.heap.size, 4, none⟩ = some (.string c) := HX6.out.bx.cell 4; have p5 : w6.cell? ⟨w.heap.size, 5, none⟩ = some (.int .i64 ck) := HX6.out.bx.cell 5; have p6 : w6.cell? ⟨w.heap.size, 6, none⟩ = some (.int .i64 cv) := HX6.out.bx.cell 6
           clear h1 h2)
        | fail)
      go_wp2
      go_ret2
      exact ⟨r6, rfl, fun h => absurd rfl h, fun _ => by have := HX6.out.ow; rw [HB.out]; exact this, HX6.out.bel⟩
    · have HB := Zh (show BY = [] ++ enct co ++ enct u ++ encC ck cv by rw [← HBY.out]; simp [bytesQ, ot, oc, oo, on, hT, hC, hU, hK, hN, hO, hW, hM, hI])
      clear hk
      go_enter Tryz.func11, Tryz.ntmps11
      go_wp2_with fail
      refine (HCK.out _ HX0.out.bel).mono ?_; rintro _ w1 ⟨rfl, hb⟩; have HX1 := Zh (HX0.out.call (HX0.out.ow.below hb) hb); clear hb; obtain ⟨a1_0, a1_1, a1_2, a1_3, a1_4, a1_5, a1_6, a1_7, a1_8, a1_9, a1_10⟩ := cs11 HX1.out.bx; simp only [List.getElem?_toArray, List.getElem?_cons_zero, List.getElem?_cons_succ] at a1_0 a1_1 a1_2 a1_3 a1_4 a1_5 a1_6 a1_7 a1_8 a1_9 a1_10; have HX2 := Zh HX1.out.drew; have q2 : w1.drew.cell? ⟨w.heap.size, 2, none⟩ = some (.string co) := HX2.out.bx.cell 2; have q3 : w1.drew.cell? ⟨w.heap.size, 3, none⟩ = some (.string u) := HX2.out.bx.cell 3; have q5 : w1.drew.cell? ⟨w.heap.size, 5, none⟩ = some (.int .i64 ck) := HX2.out.bx.cell 5; have q6 : w1.drew.cell? ⟨w.heap.size, 6, none⟩ = some (.int .i64 cv) := HX2.out.bx.cell 6
      go_wp2_with fail
      go_region_held3 (fun W => W.cell? ⟨w.heap.size, 2, none⟩ = some (.string co) ∧ W.cell? ⟨w.heap.size, 3, none⟩ = some (.string u) ∧ W.cell? ⟨w.heap.size, 5, none⟩ = some (.int .i64 ck) ∧ W.cell? ⟨w.heap.size, 6, none⟩ = some (.int .i64 cv)) (refine ⟨?_, ?_, ?_, ?_⟩ <;> assumption) (first
        | (go_at_call 26
           (with_reducible refine (rtext_on HX2.out.ow HX2.out.hB (by simp only [List.length_append, List.length_nil]; omega) co (by omega)).mono ?_)
           rintro _ w3 ⟨r3, rfl, h1, h2⟩; have HX3 := Zh (HX2.out.call h1 h2); have p2 : w3.cell? ⟨w.heap.size, 2, none⟩ = some (.string co) := HX3.out.bx.cell 2; have p3 : w3.cell? ⟨w.heap.size, 3, none⟩ = some (.string u) := HX3.out.bx.cell 3; have p5 : w3.cell? ⟨w.heap.size, 5, none⟩ = some (.int .i64 ck) := HX3.out.bx.cell 5; have p6 : w3.cell? ⟨w.heap.size, 6, none⟩ = some (.int .i64 cv) := HX3.out.bx.cell 6
           clear h1 h2)
        | (go_at_call 26
           (with_reducible refine (rtext_on HX3.out.ow HX3.out.hB (by simp only [List.length_append, List.length_nil]; omega) u (by omega)).mono ?_)
           rintro _ w4 ⟨r4, rfl, h1, h2⟩; have HX4 := Zh (HX3.out.call h1 h2); have p2 : w4.cell? ⟨w.heap.size, 2, none⟩ = some (.string co) := HX4.out.bx.cell 2; have p3 : w4.cell? ⟨w.heap.size, 3, none⟩ = some (.string u) := HX4.out.bx.cell 3; have p5 : w4.cell? ⟨w.heap.size, 5, none⟩ = some (.int .i64 ck) := HX4.out.bx.cell 5; have p6 : w4.cell? ⟨w.heap.size, 6, none⟩ = some (.int .i64 cv) := HX4.out.bx.cell 6
           clear h1 h2)
        | (go_at_call 27
           (with_reducible refine (rputCond_on HX4.out.ow HX4.out.hB (by simp only [List.length_append, List.length_nil]; omega) ck cv HNM.out.1 HNM.out.2.1).mono ?_)
           rintro _ w5 ⟨r5, rfl, h1, h2⟩; have HX5 := Zh (HX4.out.call h1 h2); have p2 : w5.cell? ⟨w.heap.size, 2, none⟩ = some (.string co) := HX5.out.bx.cell 2; have p3 : w5.cell? ⟨w.heap.size, 3, none⟩ = some (.string u) := HX5.out.bx.cell 3; have p5 : w5.cell? ⟨w.heap.size, 5, none⟩ = some (.int .i64 ck) := HX5.out.bx.cell 5; have p6 : w5.cell? ⟨w.heap.size, 6, none⟩ = some (.int .i64 cv) := HX5.out.bx.cell 6
           clear h1 h2)
        | fail)
      go_wp2
      go_ret2
      exact ⟨r5, rfl, fun h => absurd rfl h, fun _ => by have := HX5.out.ow; rw [HB.out]; exact this, HX5.out.bel⟩
    · have HB := Zh (show BY = [] ++ enct co ++ enct u by rw [← HBY.out]; simp [bytesQ, ot, oc, oo, on, hT, hC, hU, hK, hN, hO, hW, hM, hI])
      clear hk
      go_enter Tryz.func11, Tryz.ntmps11
      go_wp2_with fail
      refine (HCK.out _ HX0.out.bel).mono ?_; rintro _ w1 ⟨rfl, hb⟩; have HX1 := Zh (HX0.out.call (HX0.out.ow.below hb) hb); clear hb; obtain ⟨a1_0, a1_1, a1_2, a1_3, a1_4, a1_5, a1_6, a1_7, a1_8, a1_9, a1_10⟩ := cs11 HX1.out.bx; simp only [List.getElem?_toArray, List.getElem?_cons_zero, List.getElem?_cons_succ] at a1_0 a1_1 a1_2 a1_3 a1_4 a1_5 a1_6 a1_7 a1_8 a1_9 a1_10; have HX2 := Zh HX1.out.drew; have q2 : w1.drew.cell? ⟨w.heap.size, 2, none⟩ = some (.string co) := HX2.out.bx.cell 2; have q3 : w1.drew.cell? ⟨w.heap.size, 3, none⟩ = some (.string u) := HX2.out.bx.cell 3
      go_wp2_with fail
      go_region_held3 (fun W => W.cell? ⟨w.heap.size, 2, none⟩ = some (.string co) ∧ W.cell? ⟨w.heap.size, 3, none⟩ = some (.string u)) (refine ⟨?_, ?_⟩ <;> assumption) (first
        | (go_at_call 26
           (with_reducible refine (rtext_on HX2.out.ow HX2.out.hB (by simp only [List.length_append, List.length_nil]; omega) co (by omega)).mono ?_)
           rintro _ w3 ⟨r3, rfl, h1, h2⟩; have HX3 := Zh (HX2.out.call h1 h2); have p2 : w3.cell? ⟨w.heap.size, 2, none⟩ = some (.string co) := HX3.out.bx.cell 2; have p3 : w3.cell? ⟨w.heap.size, 3, none⟩ = some (.string u) := HX3.out.bx.cell 3
           clear h1 h2)
        | (go_at_call 26
           (with_reducible refine (rtext_on HX3.out.ow HX3.out.hB (by simp only [List.length_append, List.length_nil]; omega) u (by omega)).mono ?_)
           rintro _ w4 ⟨r4, rfl, h1, h2⟩; have HX4 := Zh (HX3.out.call h1 h2); have p2 : w4.cell? ⟨w.heap.size, 2, none⟩ = some (.string co) := HX4.out.bx.cell 2; have p3 : w4.cell? ⟨w.heap.size, 3, none⟩ = some (.string u) := HX4.out.bx.cell 3
           clear h1 h2)
        | fail)
      go_wp2
      go_ret2
      exact ⟨r4, rfl, fun h => absurd rfl h, fun _ => by have := HX4.out.ow; rw [HB.out]; exact this, HX4.out.bel⟩
    · have HB := Zh (show BY = [] ++ enct co ++ encz (len : Int) ++ opsB xs by rw [← HBY.out]; simp [bytesQ, ot, oc, oo, on, hlen, hT, hC, hU, hK, hN, hO, hW, hM, hI])
      clear hk
      go_enter Tryz.func11, Tryz.ntmps11
      go_wp2_with fail
      refine (HCK.out _ HX0.out.bel).mono ?_; rintro _ w1 ⟨rfl, hb⟩; have HX1 := Zh (HX0.out.call (HX0.out.ow.below hb) hb); clear hb; obtain ⟨a1_0, a1_1, a1_2, a1_3, a1_4, a1_5, a1_6, a1_7, a1_8, a1_9, a1_10⟩ := cs11 HX1.out.bx; simp only [List.getElem?_toArray, List.getElem?_cons_zero, List.getElem?_cons_succ] at a1_0 a1_1 a1_2 a1_3 a1_4 a1_5 a1_6 a1_7 a1_8 a1_9 a1_10; have HX2 := Zh HX1.out.drew; have q2 : w1.drew.cell? ⟨w.heap.size, 2, none⟩ = some (.string co) := HX2.out.bx.cell 2; have q7 : w1.drew.cell? ⟨w.heap.size, 7, none⟩ = some (.slice A len cap) := HX2.out.bx.cell 7
      go_wp2_with fail
      go_region_held3 (fun W => W.cell? ⟨w.heap.size, 2, none⟩ = some (.string co) ∧ W.cell? ⟨w.heap.size, 7, none⟩ = some (.slice A len cap)) (refine ⟨?_, ?_⟩ <;> assumption) (first
        | (go_at_call 26
           (with_reducible refine (rtext_on HX2.out.ow HX2.out.hB (by simp only [List.length_append, List.length_nil]; omega) co (by omega)).mono ?_)
           rintro _ w3 ⟨r3, rfl, h1, h2⟩; have HX3 := Zh (HX2.out.call h1 h2); have p2 : w3.cell? ⟨w.heap.size, 2, none⟩ = some (.string co) := HX3.out.bx.cell 2; have p7 : w3.cell? ⟨w.heap.size, 7, none⟩ = some (.slice A len cap) := HX3.out.bx.cell 7
           clear h1 h2)
        | (go_at_call 28
           (with_reducible refine (rnum_on HX3.out.ow HX3.out.hB (by simp only [List.length_append, List.length_nil]; omega) (len : Int) HHI).mono ?_)
           rintro _ w4 ⟨r4, rfl, h1, h2⟩; have HX4 := Zh (HX3.out.call h1 h2); have p2 : w4.cell? ⟨w.heap.size, 2, none⟩ = some (.string co) := HX4.out.bx.cell 2; have p7 : w4.cell? ⟨w.heap.size, 7, none⟩ = some (.slice A len cap) := HX4.out.bx.cell 7
           clear h1 h2)
        | fail)
      obtain ⟨HD, hHD⟩ : ∃ z, [] ++ enct co ++ encz (len : Int) = z := ⟨_, rfl⟩; have HHL := Zh (show HD.length ≤ 30000 by rw [← hHD]; simp only [List.length_append, List.length_nil]; omega); rw [hHD] at HB HX4; clear hHD; obtain ⟨f_0, f_1, f_2, f_3, f_4, f_5, f_6, f_7, f_8, f_9, f_10⟩ := cs11 HX4.out.bx; simp only [List.getElem?_toArray, List.getElem?_cons_zero, List.getElem?_cons_succ] at f_0 f_1 f_2 f_3 f_4 f_5 f_6 f_7 f_8 f_9 f_10
      go_wp2_with fail
      go_loopw [5, 6] (fun uu i wr => ∃ q : Nat, q ≤ len ∧ i = .int .i64 (q : Int) ∧ Pb w.heap.size w wr w.heap.size 26 #[.int .i64 7, .string t, .string co, .string u, .string c, .int .i64 ck, .int .i64 cv, .slice A len cap, .int .i64 tok, .int .i64 mo, .int .i64 ti] uu (HD ++ opsB (xs.take q))) (fun _ i _ => len - (intOf i).toNat)
      case atStart => exact ⟨0, Nat.zero_le _, rfl, by simpa [opsB] using HX4.out⟩
      case round =>
        obtain ⟨q, hq, rfl, hO⟩ := hrel; have HXR := Zh hO; have hBr : w.heap.size ≤ wr.heap.size := hO.hB; clear hO; obtain ⟨d_0, d_1, d_2, d_3, d_4, d_5, d_6, d_7, d_8, d_9, d_10⟩ := cs11 HXR.out.bx; simp only [List.getElem?_toArray, List.getElem?_cons_zero, List.getElem?_cons_succ] at d_0 d_1 d_2 d_3 d_4 d_5 d_6 d_7 d_8 d_9 d_10
        by_cases hql : q < len
        · obtain ⟨o, ho⟩ : ∃ o, xs[q]? = some o := ⟨xs[q]'(by rw [hlen]; exact hql), List.getElem?_eq_getElem _⟩
          obtain ⟨rfl, hbl⟩ := HI.out.addr (by omega); obtain ⟨c0, c1, c2, c3, c4⟩ := (HI.out.below HXR.out.bel (fun _ => hbl)).cell q o ho; have HFT := Zh (HF.out o (List.mem_of_getElem? ho)); have HSN := Zh (opsB_snoc xs q o ho); have HLL := Zh (show (HD ++ opsB (xs.take q)).length ≤ 200000 by
            have h1 := opsB_len (xs.take q) (fun s hs => HF.out s (List.mem_of_mem_take hs)); have h2 := HHL.out; rw [List.length_take] at h1; rw [List.length_append]
            omega)
          have hqI : (q : Int) < (len : Int) := by omega
          obtain ⟨LQ, hLQ⟩ : ∃ z, HD ++ opsB (xs.take q) = z := ⟨_, rfl⟩; have HNX := Zh (show HD ++ opsB (xs.take (q + 1)) = LQ ++ encO o by rw [HSN.out, ← List.append_assoc, hLQ]); rw [hLQ] at HXR HLL; clear hLQ HSN ho; obtain ⟨od, ou, oc, ok, ov⟩ := o; simp only at c0 c1 c2 c3 c4; have HY0 := Zh (Pb.start HXR.out.ow hBr 43 #[.bool od, .string ou, .string oc, .int .i64 ok, .int .i64 ov]).drew; have hou : ou.size ≤ 100 := HFT.out.u; have hoc : oc.size ≤ 5000 := HFT.out.c; have l2 := enct_len ou (by omega); have l3 := enct_len oc (by omega); have hLL : LQ.length ≤ 200000 := HLL.out
          cases od with
          | true =>
            have HE2 := Zh (show LQ ++ encO ⟨true, ou, oc, ok, ov⟩ = LQ ++ encz 1 ++ enct ou ++ encC ok ov by unfold encO b01; simp); have l1 := encz_len 1 (by decide); have l1b := encz_len (b01 true) (by decide); have q0 : (wr.alloc (.cells #[.bool true, .string ou, .string oc, .int .i64 ok, .int .i64 ov] 43)).drew.cell? ⟨wr.heap.size, 0, none⟩ = some (.bool true) := HY0.out.bx.cell 0; have q1 : (wr.alloc (.cells #[.bool true, .string ou, .string oc, .int .i64 ok, .int .i64 ov] 43)).drew.cell? ⟨wr.heap.size, 1, none⟩ = some (.string ou) := HY0.out.bx.cell 1
            go_wp2_with fail
            go_region_held3 (fun W => W.cell? ⟨wr.heap.size, 0, none⟩ = some (.bool true) ∧ W.cell? ⟨wr.heap.size, 1, none⟩ = some (.string ou)) (refine ⟨?_, ?_⟩ <;> assumption) (first
              | (go_at_call 29
                 refine (bit_any _ _).mono ?_; rintro _ x5 ⟨rfl, hw5⟩
                 subst hw5)
              | (go_at_call 28
                 (with_reducible refine (rnum_on HY0.out.ow HY0.out.hB (by omega) (b01 true) (by decide)).mono ?_)
                 rintro _ y1 ⟨s1, rfl, h1, h2⟩; have HY1 := Zh (HY0.out.call h1 h2); have p0 : y1.cell? ⟨wr.heap.size, 0, none⟩ = some (.bool true) := HY1.out.bx.cell 0; have p1 : y1.cell? ⟨wr.heap.size, 1, none⟩ = some (.string ou) := HY1.out.bx.cell 1
                 clear h1 h2)
              | (go_at_call 26
                 (with_reducible refine (rtext_on HY1.out.ow HY1.out.hB (by simp only [List.length_append]; omega) ou (by omega)).mono ?_)
                 rintro _ y2 ⟨s2, rfl, h1, h2⟩; have HY2 := Zh (HY1.out.call h1 h2); have p0 : y2.cell? ⟨wr.heap.size, 0, none⟩ = some (.bool true) := HY2.out.bx.cell 0; have p1 : y2.cell? ⟨wr.heap.size, 1, none⟩ = some (.string ou) := HY2.out.bx.cell 1
                 clear h1 h2)
              | fail)
            have HYa := Zh (show Pb w.heap.size wr y2 wr.heap.size 43 _ _ (LQ ++ encz 1 ++ enct ou) from HY2.out); have g_0 := HYa.out.bx.cell 0; have g_1 := HYa.out.bx.cell 1; have g_2 := HYa.out.bx.cell 2; have g_3 := HYa.out.bx.cell 3; have g_4 := HYa.out.bx.cell 4; simp only [List.getElem?_toArray, List.getElem?_cons_zero, List.getElem?_cons_succ] at g_0 g_1 g_2 g_3 g_4
            go_wp2_with fail
            refine (rputCond_on HYa.out.ow HYa.out.hB (by simp only [List.length_append, List.length_nil]; omega) ok ov HFT.out.k HFT.out.v).mono ?_; rintro _ y9 ⟨s9, rfl, h1, h2⟩; have HYz := Zh (HYa.out.call h1 h2); clear h1 h2
            go_wp2
            go_roundw
            case rel => exact ⟨q + 1, by omega, by go_num, by rw [HNX.out, HE2.out]; exact HXR.out.back HYz.out⟩
            case measure => simp [intOf]; omega
          | false =>
            have HE2 := Zh (show LQ ++ encO ⟨false, ou, oc, ok, ov⟩ = LQ ++ encz 0 ++ enct ou ++ enct oc ++ encC ok ov by unfold encO b01; simp); have l1 := encz_len 0 (by decide); have l1b := encz_len (b01 false) (by decide); have q0 : (wr.alloc (.cells #[.bool false, .string ou, .string oc, .int .i64 ok, .int .i64 ov] 43)).drew.cell? ⟨wr.heap.size, 0, none⟩ = some (.bool false) := HY0.out.bx.cell 0; have q1 : (wr.alloc (.cells #[.bool false, .string ou, .string oc, .int .i64 ok, .int .i64 ov] 43)).drew.cell? ⟨wr.heap.size, 1, none⟩ = some (.string ou) := HY0.out.bx.cell 1
            go_wp2_with fail
            go_region_held3 (fun W => W.cell? ⟨wr.heap.size, 0, none⟩ = some (.bool false) ∧ W.cell? ⟨wr.heap.size, 1, none⟩ = some (.string ou)) (refine ⟨?_, ?_⟩ <;> assumption) (first
              | (go_at_call 29
                 refine (bit_any _ _).mono ?_; rintro _ x5 ⟨rfl, hw5⟩
                 subst hw5)
              | (go_at_call 28
                 (with_reducible refine (rnum_on HY0.out.ow HY0.out.hB (by omega) (b01 false) (by decide)).mono ?_)
                 rintro _ y1 ⟨s1, rfl, h1, h2⟩; have HY1 := Zh (HY0.out.call h1 h2); have p0 : y1.cell? ⟨wr.heap.size, 0, none⟩ = some (.bool false) := HY1.out.bx.cell 0; have p1 : y1.cell? ⟨wr.heap.size, 1, none⟩ = some (.string ou) := HY1.out.bx.cell 1
                 clear h1 h2)
              | (go_at_call 26
                 (with_reducible refine (rtext_on HY1.out.ow HY1.out.hB (by simp only [List.length_append]; omega) ou (by omega)).mono ?_)
                 rintro _ y2 ⟨s2, rfl, h1, h2⟩; have HY2 := Zh (HY1.out.call h1 h2); have p0 : y2.cell? ⟨wr.heap.size, 0, none⟩ = some (.bool false) := HY2.out.bx.cell 0; have p1 : y2.cell? ⟨wr.heap.size, 1, none⟩ = some (.string ou) := HY2.out.bx.cell 1
                 clear h1 h2)
              | fail)
            have HYa := Zh (show Pb w.heap.size wr y2 wr.heap.size 43 _ _ (LQ ++ encz 0 ++ enct ou) from HY2.out); have g_0 := HYa.out.bx.cell 0; have g_1 := HYa.out.bx.cell 1; have g_2 := HYa.out.bx.cell 2; have g_3 := HYa.out.bx.cell 3; have g_4 := HYa.out.bx.cell 4; simp only [List.getElem?_toArray, List.getElem?_cons_zero, List.getElem?_cons_succ] at g_0 g_1 g_2 g_3 g_4
            go_wp2_with fail
            refine (rtext_on HYa.out.ow HYa.out.hB (by simp only [List.length_append, List.length_nil]; omega) oc (by omega)).mono ?_; rintro _ y3 ⟨s3, rfl, h1, h2⟩; have HYb := Zh (HYa.out.call h1 h2); clear h1 h2; have h_0 := HYb.out.bx.cell 0; have h_1 := HYb.out.bx.cell 1; have h_2 := HYb.out.bx.cell 2; have h_3 := HYb.out.bx.cell 3; have h_4 := HYb.out.bx.cell 4; simp only [List.getElem?_toArray, List.getElem?_cons_zero, List.getElem?_cons_succ] at h_0 h_1 h_2 h_3 h_4
            go_wp2_with fail
            refine (rputCond_on HYb.out.ow HYb.out.hB (by simp only [List.length_append, List.length_nil]; omega) ok ov HFT.out.k HFT.out.v).mono ?_; rintro _ y9 ⟨s9, rfl, h1, h2⟩; have HYz := Zh (HYb.out.call h1 h2); clear h1 h2
            go_wp2
            go_roundw
            case rel => exact ⟨q + 1, by omega, by go_num, by rw [HNX.out, HE2.out]; exact HXR.out.back HYz.out⟩
            case measure => simp [intOf]; omega
        ·
          have hqI : ¬ (q : Int) < (len : Int) := by omega
          have hall : xs.take q = xs := List.take_of_length_le (by omega); rw [hall] at HXR
          go_wp2
          go_ret2
          first | exact ⟨_, rfl, fun h => absurd rfl h, fun _ => by rw [HB.out]; exact HXR.out.ow, HXR.out.bel⟩ | exact ⟨_, rfl, by rw [HB.out]; exact HXR.out.ow, HXR.out.bel⟩
    · have HB := Zh (show BY = [] ++ enct co ++ encz tok ++ encz mo by rw [← HBY.out]; simp [bytesQ, ot, oc, oo, on, hT, hC, hU, hK, hN, hO, hW, hM, hI])
      clear hk
      go_enter Tryz.func11, Tryz.ntmps11
      go_wp2_with fail
      refine (HCK.out _ HX0.out.bel).mono ?_; rintro _ w1 ⟨rfl, hb⟩; have HX1 := Zh (HX0.out.call (HX0.out.ow.below hb) hb); clear hb; obtain ⟨a1_0, a1_1, a1_2, a1_3, a1_4, a1_5, a1_6, a1_7, a1_8, a1_9, a1_10⟩ := cs11 HX1.out.bx; simp only [List.getElem?_toArray, List.getElem?_cons_zero, List.getElem?_cons_succ] at a1_0 a1_1 a1_2 a1_3 a1_4 a1_5 a1_6 a1_7 a1_8 a1_9 a1_10; have HX2 := Zh HX1.out.drew; have q2 : w1.drew.cell? ⟨w.heap.size, 2, none⟩ = some (.string co) := HX2.out.bx.cell 2; have q8 : w1.drew.cell? ⟨w.heap.size, 8, none⟩ = some (.int .i64 tok) := HX2.out.bx.cell 8; have q9 : w1.drew.cell? ⟨w.heap.size, 9, none⟩ = some (.int .i64 mo) := HX2.out.bx.cell 9
      go_wp2_with fail
      go_region_held3 (fun W => W.cell? ⟨w.heap.size, 2, none⟩ = some (.string co) ∧ W.cell? ⟨w.heap.size, 8, none⟩ = some (.int .i64 tok) ∧ W.cell? ⟨w.heap.size, 9, none⟩ = some (.int .i64 mo)) (refine ⟨?_, ?_, ?_⟩ <;> assumption) (first
        | (go_at_call 26
           (with_reducible refine (rtext_on HX2.out.ow HX2.out.hB (by simp only [List.length_append, List.length_nil]; omega) co (by omega)).mono ?_)
           rintro _ w3 ⟨r3, rfl, h1, h2⟩; have HX3 := Zh (HX2.out.call h1 h2); have p2 : w3.cell? ⟨w.heap.size, 2, none⟩ = some (.string co) := HX3.out.bx.cell 2; have p8 : w3.cell? ⟨w.heap.size, 8, none⟩ = some (.int .i64 tok) := HX3.out.bx.cell 8; have p9 : w3.cell? ⟨w.heap.size, 9, none⟩ = some (.int .i64 mo) := HX3.out.bx.cell 9
           clear h1 h2)
        | (go_at_call 28
           (with_reducible refine (rnum_on HX3.out.ow HX3.out.hB (by simp only [List.length_append, List.length_nil]; omega) tok HNM.out.2.2.1).mono ?_)
           rintro _ w4 ⟨r4, rfl, h1, h2⟩; have HX4 := Zh (HX3.out.call h1 h2); have p2 : w4.cell? ⟨w.heap.size, 2, none⟩ = some (.string co) := HX4.out.bx.cell 2; have p8 : w4.cell? ⟨w.heap.size, 8, none⟩ = some (.int .i64 tok) := HX4.out.bx.cell 8; have p9 : w4.cell? ⟨w.heap.size, 9, none⟩ = some (.int .i64 mo) := HX4.out.bx.cell 9
           clear h1 h2)
        | (go_at_call 28
           (with_reducible refine (rnum_on HX4.out.ow HX4.out.hB (by simp only [List.length_append, List.length_nil]; omega) mo HNM.out.2.2.2.1).mono ?_)
           rintro _ w5 ⟨r5, rfl, h1, h2⟩; have HX5 := Zh (HX4.out.call h1 h2); have p2 : w5.cell? ⟨w.heap.size, 2, none⟩ = some (.string co) := HX5.out.bx.cell 2; have p8 : w5.cell? ⟨w.heap.size, 8, none⟩ = some (.int .i64 tok) := HX5.out.bx.cell 8; have p9 : w5.cell? ⟨w.heap.size, 9, none⟩ = some (.int .i64 mo) := HX5.out.bx.cell 9
           clear h1 h2)
        | fail)
      go_wp2
      go_ret2
      exact ⟨r5, rfl, fun h => absurd rfl h, fun _ => by have := HX5.out.ow; rw [HB.out]; exact this, HX5.out.bel⟩
    · have HB := Zh (show BY = [] ++ enct co ++ encz tok ++ encz ti by rw [← HBY.out]; simp [bytesQ, ot, oc, oo, on, hT, hC, hU, hK, hN, hO, hW, hM, hI])
      clear hk
      go_enter Tryz.func11, Tryz.ntmps11
      go_wp2_with fail
      refine (HCK.out _ HX0.out.bel).mono ?_; rintro _ w1 ⟨rfl, hb⟩; have HX1 := Zh (HX0.out.call (HX0.out.ow.below hb) hb); clear hb; obtain ⟨a1_0, a1_1, a1_2, a1_3, a1_4, a1_5, a1_6, a1_7, a1_8, a1_9, a1_10⟩ := cs11 HX1.out.bx; simp only [List.getElem?_toArray, List.getElem?_cons_zero, List.getElem?_cons_succ] at a1_0 a1_1 a1_2 a1_3 a1_4 a1_5 a1_6 a1_7 a1_8 a1_9 a1_10; have HX2 := Zh HX1.out.drew; have q2 : w1.drew.cell? ⟨w.heap.size, 2, none⟩ = some (.string co) := HX2.out.bx.cell 2; have q8 : w1.drew.cell? ⟨w.heap.size, 8, none⟩ = some (.int .i64 tok) := HX2.out.bx.cell 8; have q10 : w1.drew.cell? ⟨w.heap.size, 10, none⟩ = some (.int .i64 ti) := HX2.out.bx.cell 10
      go_wp2_with fail
      go_region_held3 (fun W => W.cell? ⟨w.heap.size, 2, none⟩ = some (.string co) ∧ W.cell? ⟨w.heap.size, 8, none⟩ = some (.int .i64 tok) ∧ W.cell? ⟨w.heap.size, 10, none⟩ = some (.int .i64 ti)) (refine ⟨?_, ?_, ?_⟩ <;> assumption) (first
        | (go_at_call 26
           (with_reducible refine (rtext_on HX2.out.ow HX2.out.hB (by simp only [List.length_append, List.length_nil]; omega) co (by omega)).mono ?_)
           rintro _ w3 ⟨r3, rfl, h1, h2⟩; have HX3 := Zh (HX2.out.call h1 h2); have p2 : w3.cell? ⟨w.heap.size, 2, none⟩ = some (.string co) := HX3.out.bx.cell 2; have p8 : w3.cell? ⟨w.heap.size, 8, none⟩ = some (.int .i64 tok) := HX3.out.bx.cell 8; have p10 : w3.cell? ⟨w.heap.size, 10, none⟩ = some (.int .i64 ti) := HX3.out.bx.cell 10
           clear h1 h2)
        | (go_at_call 28
           (with_reducible refine (rnum_on HX3.out.ow HX3.out.hB (by simp only [List.length_append, List.length_nil]; omega) tok HNM.out.2.2.1).mono ?_)
           rintro _ w4 ⟨r4, rfl, h1, h2⟩; have HX4 := Zh (HX3.out.call h1 h2); have p2 : w4.cell? ⟨w.heap.size, 2, none⟩ = some (.string co) := HX4.out.bx.cell 2; have p8 : w4.cell? ⟨w.heap.size, 8, none⟩ = some (.int .i64 tok) := HX4.out.bx.cell 8; have p10 : w4.cell? ⟨w.heap.size, 10, none⟩ = some (.int .i64 ti) := HX4.out.bx.cell 10
           clear h1 h2)
        | (go_at_call 28
           (with_reducible refine (rnum_on HX4.out.ow HX4.out.hB (by simp only [List.length_append, List.length_nil]; omega) ti HNM.out.2.2.2.2).mono ?_)
           rintro _ w5 ⟨r5, rfl, h1, h2⟩; have HX5 := Zh (HX4.out.call h1 h2); have p2 : w5.cell? ⟨w.heap.size, 2, none⟩ = some (.string co) := HX5.out.bx.cell 2; have p8 : w5.cell? ⟨w.heap.size, 8, none⟩ = some (.int .i64 tok) := HX5.out.bx.cell 8; have p10 : w5.cell? ⟨w.heap.size, 10, none⟩ = some (.int .i64 ti) := HX5.out.bx.cell 10
           clear h1 h2)
        | fail)
      go_wp2
      go_ret2
      exact ⟨r5, rfl, fun h => absurd rfl h, fun _ => by have := HX5.out.ow; rw [HB.out]; exact this, HX5.out.bel⟩
    · have HB := Zh (show BY = [] by rw [← HBY.out]; simp [bytesQ, ot, oc, oo, on, hT, hC, hU, hK, hN, hO, hW, hM, hI])
      clear hk
      go_enter Tryz.func11, Tryz.ntmps11
      go_wp2_with fail
      refine (HCK.out _ HX0.out.bel).mono ?_; rintro _ w1 ⟨rfl, hb⟩; have HX1 := Zh (HX0.out.call (HX0.out.ow.below hb) hb); clear hb; obtain ⟨a1_0, a1_1, a1_2, a1_3, a1_4, a1_5, a1_6, a1_7, a1_8, a1_9, a1_10⟩ := cs11 HX1.out.bx; simp only [List.getElem?_toArray, List.getElem?_cons_zero, List.getElem?_cons_succ] at a1_0 a1_1 a1_2 a1_3 a1_4 a1_5 a1_6 a1_7 a1_8 a1_9 a1_10
      go_wp2
      go_ret2
      exact ⟨_, rfl, fun h => absurd rfl h, fun _ => by have := HX1.out.ow; rw [HB.out]; exact this, HX1.out.bel⟩
    · have HB := Zh (show BY = [] by rw [← HBY.out]; simp [bytesQ, ot, oc, oo, on, hT, hC, hU, hK, hN, hO, hW, hM, hI])
      clear hk
      go_enter Tryz.func11, Tryz.ntmps11
      go_wp2_with fail
      refine (HCK.out _ HX0.out.bel).mono ?_; rintro _ w1 ⟨rfl, hb⟩; have HX1 := Zh (HX0.out.call (HX0.out.ow.below hb) hb); clear hb; obtain ⟨a1_0, a1_1, a1_2, a1_3, a1_4, a1_5, a1_6, a1_7, a1_8, a1_9, a1_10⟩ := cs11 HX1.out.bx; simp only [List.getElem?_toArray, List.getElem?_cons_zero, List.getElem?_cons_succ] at a1_0 a1_1 a1_2 a1_3 a1_4 a1_5 a1_6 a1_7 a1_8 a1_9 a1_10
      go_wp2
      go_ret2
      exact ⟨_, rfl, fun h => absurd rfl h, fun _ => by have := HX1.out.ow; rw [HB.out]; exact this, HX1.out.bel⟩
  · have d0 : (r != 0) = true := by simpa using h0
    have HN := Zh h0; clear h0 HFQ HOK h hz hw hr
    go_enter Tryz.func11, Tryz.ntmps11
    go_wp2_with fail
    refine (HCK.out _ HX0.out.bel).mono ?_; rintro _ w1 ⟨rfl, hb⟩; have HX1 := Zh (HX0.out.call (HX0.out.ow.below hb) hb); clear hb
    go_wp2
    go_ret2
    exact ⟨_, rfl, fun _ => rfl, fun h => absurd h HN.out, HX1.out.bel⟩
end
end Go.Proofs.YtphijnkiiokieaaGreatDoor
