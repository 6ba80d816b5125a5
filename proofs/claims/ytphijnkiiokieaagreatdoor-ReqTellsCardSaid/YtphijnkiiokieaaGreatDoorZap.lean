/- Texts of one proof, joined. -/
import Derived.Test.YtphijnkiiokieaaGreatDoorZao
set_option linter.unusedVariables false
set_option linter.unusedSimpArgs false
set_option maxRecDepth 100000
set_option maxHeartbeats 80000000
namespace Go.Proofs.YtphijnkiiokieaaGreatDoor
open Go.RowKit
open Go.Lib hiding intOf
def partsN (k : Int) : Int := if k = 1 then 1 else if k = 2 ∨ k = 3 then 2 else if k = 4 then 30 else if k = 5 then 22 else if k = 6 then 6 else if k = 7 then 34 else if k = 8 then 194 else if k = 9 then 322 else 0
theorem kinds11 (k : Int) : (k = 1 ∨ k = 2 ∨ k = 3 ∨ k = 4 ∨ k = 5 ∨ k = 6 ∨ k = 7 ∨ k = 8 ∨ k = 9 ∨ k = 10 ∨ k = 11) ∨ (kindB k = false ∧ partsN k = 0 ∧ ∀ n : Fin 12, 1 ≤ n.val → (k == (n.val : Int)) = false) := by
 by_cases h : 1 ≤ k ∧ k ≤ 11
 ·
  left; omega
 ·
  right
  refine ⟨?_, ?_, fun n hn => ?_⟩
  ·
   unfold kindB
   rw [Bool.and_eq_false_iff, decide_eq_false_iff_not, decide_eq_false_iff_not]
   omega
  ·
   unfold partsN
   repeat rw [if_neg (by omega)]
  ·
   have := n.isLt
   simp
   omega
theorem qparts_any (k : Int) (w : World) : Calls Tryz.prog 21 #[.int .i64 k] w fun e w' => e = .returned (.tuple #[.int .i64 (partsN k), .bool (kindB k)]) ∧ w' = w := by
 rcases kinds11 k with (rfl | rfl | rfl | rfl | rfl | rfl | rfl | rfl | rfl | rfl | rfl) | ⟨h1, h2, h3⟩
 iterate 11
  ·
   go_enter Tryz.func21, Tryz.ntmps21
   go_wp2
   go_ret2
   exact ⟨rfl, rfl⟩
 ·
  have e1 := h3 1 (by decide); have e2 := h3 2 (by decide); have e3 := h3 3 (by decide); have e4 := h3 4 (by decide); have e5 := h3 5 (by decide); have e6 := h3 6 (by decide); have e7 := h3 7 (by decide); have e8 := h3 8 (by decide); have e9 := h3 9 (by decide); have e10 := h3 10 (by decide); have e11 := h3 11 (by decide); rw [h1, h2]; have e1' : (k == 1) = false := e1; have e2' : (k == 2) = false := e2; have e3' : (k == 3) = false := e3; have e4' : (k == 4) = false := e4; have e5' : (k == 5) = false := e5; have e6' : (k == 6) = false := e6; have e7' : (k == 7) = false := e7; have e8' : (k == 8) = false := e8; have e9' : (k == 9) = false := e9; have e10' : (k == 10) = false := e10; have e11' : (k == 11) = false := e11; clear e1 e2 e3 e4 e5 e6 e7 e8 e9 e10 e11 h1 h2 h3
  go_enter Tryz.func21, Tryz.ntmps21
  go_wp2
  go_ret2
  exact ⟨rfl, rfl⟩
def mk1 (n : Int) (b : Bool) (p : Int) : Int := if b = true then bits .or .i64 n p else n
theorem mark1_any {w : World} {g : Nat} {n : Int} (h : Blk w g 3 #[.int .i64 n]) (b : Bool) (p : Int) : Calls Tryz.prog 62 #[.bool b, .int .i64 p, .pointer (some ⟨g, 0, none⟩)] w fun e w' => e = .returned (.tuple #[]) ∧ Blk w' g 3 #[.int .i64 (mk1 n b p)] ∧ w.grownBy w' (some g) := by
 have c0 := h.cell 0; have f0 := h.frozen 0; have HB := Zh h; clear h
 cases b with
 | false =>
  go_enter Tryz.func62, Tryz.ntmps62
  go_wp2
  go_end0
  exact ⟨rfl, HB.out, ⟨rfl, rfl, rfl, Nat.le_refl _, fun _ _ _ => rfl⟩⟩
 | true =>
  go_enter Tryz.func62, Tryz.ntmps62
  go_wp2
  go_end0
  exact ⟨rfl, HB.out.set_ 0 _, only_setCell (p := ⟨g, 0, none⟩) ⟨rfl, rfl, rfl, Nat.le_refl _, fun _ _ _ => rfl⟩ (.inl rfl) _⟩
theorem neC_run (k v k2 v2 : Int) (w : World) : Sem.run Tryz.prog (binOp .neq 23 (.agg #[.int .i64 k, .int .i64 v]) (.agg #[.int .i64 k2, .int .i64 v2])) w = .ok (.bool (!(k == k2 && v == v2))) w := by
 go_simp
 by_cases h1 : k = k2 <;> by_cases h2 : v = v2
 all_goals simp [h1, h2]
structure Us (w0 wr : World) (cs : Array Value) (n : Int) : Prop where
 bx : Blk wr w0.heap.size 26 cs
 nb : Blk wr (w0.heap.size + 1) 3 #[.int .i64 n]
 bel : Below w0.heap.size w0 wr
theorem Us.start (w : World) (cs : Array Value) : Us w ((w.alloc (.cells cs 26)).alloc (.cells #[.int .i64 0] 3)) cs 0 :=
 ⟨(Blk.new w _ _).alloc _, by have := Blk.new (w.alloc (.cells cs 26)) 3 #[.int .i64 0]; rwa [World.size_alloc] at this, ((Below.refl _ _).alloc (Nat.le_refl _) _).alloc (by simp) _⟩
theorem Us.call {w0 wr w' : World} {cs : Array Value} {n n' : Int} (h : Us w0 wr cs n) (hn : Blk w' (w0.heap.size + 1) 3 #[.int .i64 n']) (hg : wr.grownBy w' (some (w0.heap.size + 1))) : Us w0 w' cs n' :=
 ⟨h.bx.grown hg (by simp), hn, ⟨hg.os.trans h.bel.os, hg.tape.trans h.bel.tape, hg.output.trans h.bel.output, Nat.le_trans h.bel.size hg.size, fun j hj => (hg.block j (Nat.lt_of_lt_of_le hj h.bel.size) (by simp; omega)).trans (h.bel.block j hj)⟩⟩
def usedN (b1 b2 b3 b4 b5 b6 b7 b8 b9 : Bool) : Int := mk1 (mk1 (mk1 (mk1 (mk1 (mk1 (mk1 (mk1 (mk1 0 b1 1) b2 2) b3 4) b4 8) b5 16) b6 32) b7 64) b8 128) b9 256
theorem used_any (k : Int) (t co u c : ByteArray) (ck cv : Int) (A : Option Addr) (len cap : Nat) (tok mo ti : Int) (w : World) : Calls Tryz.prog 43 #[.agg #[.int .i64 k, .string t, .string co, .string u, .string c, .int .i64 ck, .int .i64 cv, .slice A len cap, .int .i64 tok, .int .i64 mo, .int .i64 ti]] w fun e w' => e = .returned (.int .i64 (usedN (nz t) (nz co) (nz u) (nz c) (nzC ck cv) (nzI (len : Int)) (nzI tok) (nzI mo) (nzI ti))) ∧ Below w.heap.size w w' := by
 have H0 := Zh (Us.start w #[.int .i64 k, .string t, .string co, .string u, .string c, .int .i64 ck, .int .i64 cv, .slice A len cap, .int .i64 tok, .int .i64 mo, .int .i64 ti]); have hC : ∀ wq, Sem.run Tryz.prog (binOp .neq 23 (.agg #[.int .i64 ck, .int .i64 cv]) (.agg #[.int .i64 0, .int .i64 0])) wq = .ok (.bool (nzC ck cv)) wq := fun wq => neC_run ck cv 0 0 wq
 obtain ⟨r, hr⟩ : ∃ r, usedN (nz t) (nz co) (nz u) (nz c) (nzC ck cv) (nzI (len : Int)) (nzI tok) (nzI mo) (nzI ti) = r := ⟨_, rfl⟩; have HR := Zh hr; rw [hr]; clear hr
 go_enter Tryz.func43, Tryz.ntmps43
 go_wp2_with fail
 refine (mark1_any H0.out.nb _ _).mono ?_; rintro _ w1 ⟨rfl, h1, h2⟩; have H1 := Zh (H0.out.call h1 h2); clear h1 h2; obtain ⟨c1_0, c1_1, c1_2, c1_3, c1_4, c1_5, c1_6, c1_7, c1_8, c1_9, c1_10⟩ := cs11 H1.out.bx; have n1 := H1.out.nb.cell 0; simp only [List.getElem?_toArray, List.getElem?_cons_zero, List.getElem?_cons_succ] at c1_0 c1_1 c1_2 c1_3 c1_4 c1_5 c1_6 c1_7 c1_8 c1_9 c1_10
 go_wp2_with fail
 refine (mark1_any H1.out.nb _ _).mono ?_; rintro _ w2 ⟨rfl, h1, h2⟩; have H2 := Zh (H1.out.call h1 h2); clear h1 h2; obtain ⟨c2_0, c2_1, c2_2, c2_3, c2_4, c2_5, c2_6, c2_7, c2_8, c2_9, c2_10⟩ := cs11 H2.out.bx; have n2 := H2.out.nb.cell 0; simp only [List.getElem?_toArray, List.getElem?_cons_zero, List.getElem?_cons_succ] at c2_0 c2_1 c2_2 c2_3 c2_4 c2_5 c2_6 c2_7 c2_8 c2_9 c2_10
 go_wp2_with fail
 refine (mark1_any H2.out.nb _ _).mono ?_; rintro _ w3 ⟨rfl, h1, h2⟩; have H3 := Zh (H2.out.call h1 h2); clear h1 h2; obtain ⟨c3_0, c3_1, c3_2, c3_3, c3_4, c3_5, c3_6, c3_7, c3_8, c3_9, c3_10⟩ := cs11 H3.out.bx; have n3 := H3.out.nb.cell 0; simp only [List.getElem?_toArray, List.getElem?_cons_zero, List.getElem?_cons_succ] at c3_0 c3_1 c3_2 c3_3 c3_4 c3_5 c3_6 c3_7 c3_8 c3_9 c3_10
 go_wp2_with fail
 refine (mark1_any H3.out.nb _ _).mono ?_; rintro _ w4 ⟨rfl, h1, h2⟩; have H4 := Zh (H3.out.call h1 h2); clear h1 h2; obtain ⟨c4_0, c4_1, c4_2, c4_3, c4_4, c4_5, c4_6, c4_7, c4_8, c4_9, c4_10⟩ := cs11 H4.out.bx; have n4 := H4.out.nb.cell 0; simp only [List.getElem?_toArray, List.getElem?_cons_zero, List.getElem?_cons_succ] at c4_0 c4_1 c4_2 c4_3 c4_4 c4_5 c4_6 c4_7 c4_8 c4_9 c4_10
 go_wp2_with fail
 refine (mark1_any H4.out.nb _ _).mono ?_; rintro _ w5 ⟨rfl, h1, h2⟩; have H5 := Zh (H4.out.call h1 h2); clear h1 h2; obtain ⟨c5_0, c5_1, c5_2, c5_3, c5_4, c5_5, c5_6, c5_7, c5_8, c5_9, c5_10⟩ := cs11 H5.out.bx; have n5 := H5.out.nb.cell 0; simp only [List.getElem?_toArray, List.getElem?_cons_zero, List.getElem?_cons_succ] at c5_0 c5_1 c5_2 c5_3 c5_4 c5_5 c5_6 c5_7 c5_8 c5_9 c5_10
 go_wp2_with fail
 refine (mark1_any H5.out.nb _ _).mono ?_; rintro _ w6 ⟨rfl, h1, h2⟩; have H6 := Zh (H5.out.call h1 h2); clear h1 h2; obtain ⟨c6_0, c6_1, c6_2, c6_3, c6_4, c6_5, c6_6, c6_7, c6_8, c6_9, c6_10⟩ := cs11 H6.out.bx; have n6 := H6.out.nb.cell 0; simp only [List.getElem?_toArray, List.getElem?_cons_zero, List.getElem?_cons_succ] at c6_0 c6_1 c6_2 c6_3 c6_4 c6_5 c6_6 c6_7 c6_8 c6_9 c6_10
 go_wp2_with fail
 refine (mark1_any H6.out.nb _ _).mono ?_; rintro _ w7 ⟨rfl, h1, h2⟩; have H7 := Zh (H6.out.call h1 h2); clear h1 h2; obtain ⟨c7_0, c7_1, c7_2, c7_3, c7_4, c7_5, c7_6, c7_7, c7_8, c7_9, c7_10⟩ := cs11 H7.out.bx; have n7 := H7.out.nb.cell 0; simp only [List.getElem?_toArray, List.getElem?_cons_zero, List.getElem?_cons_succ] at c7_0 c7_1 c7_2 c7_3 c7_4 c7_5 c7_6 c7_7 c7_8 c7_9 c7_10
 go_wp2_with fail
 refine (mark1_any H7.out.nb _ _).mono ?_; rintro _ w8 ⟨rfl, h1, h2⟩; have H8 := Zh (H7.out.call h1 h2); clear h1 h2; obtain ⟨c8_0, c8_1, c8_2, c8_3, c8_4, c8_5, c8_6, c8_7, c8_8, c8_9, c8_10⟩ := cs11 H8.out.bx; have n8 := H8.out.nb.cell 0; simp only [List.getElem?_toArray, List.getElem?_cons_zero, List.getElem?_cons_succ] at c8_0 c8_1 c8_2 c8_3 c8_4 c8_5 c8_6 c8_7 c8_8 c8_9 c8_10
 go_wp2_with fail
 refine (mark1_any H8.out.nb _ _).mono ?_; rintro _ w9 ⟨rfl, h1, h2⟩; have H9 := Zh (H8.out.call h1 h2); clear h1 h2; obtain ⟨c9_0, c9_1, c9_2, c9_3, c9_4, c9_5, c9_6, c9_7, c9_8, c9_9, c9_10⟩ := cs11 H9.out.bx; have n9 := H9.out.nb.cell 0; simp only [List.getElem?_toArray, List.getElem?_cons_zero, List.getElem?_cons_succ] at c9_0 c9_1 c9_2 c9_3 c9_4 c9_5 c9_6 c9_7 c9_8 c9_9 c9_10
 go_wp2
 go_ret
 exact ⟨by rw [← HR.out]; rfl, H9.out.bel⟩
end Go.Proofs.YtphijnkiiokieaaGreatDoor
