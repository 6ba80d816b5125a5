/- The reference's clock: Set. -/
import Derived.Test.YtchjgojagmhpeaaRb
import Derived.Deep.RegionLaw
namespace Go.Proofs.Ytchjgojagmhpeaa
open Go.RowKit Go.Maps
open Go.Lib
set_option linter.unusedVariables false
set_option linter.unusedSimpArgs false
set_option maxRecDepth 100000
theorem own_row {W : World} {B : Nat} {A : Option Addr} {cap k : Nat} {vs : List Value} {n : Nat} (h : OwnG 3 W A cap k vs) (hl : vs.length = n) (hB : B ≤ k) : W.ownsRow B 3 1 (.slice A n cap) n vs := by
  rcases h with ⟨rfl, rfl, rfl⟩ | ⟨cur, rfl, h2, h3, h4, h5, h6⟩
  · subst hl
    exact World.ownsRow_nil _ _ _ _
  · refine ⟨by omega, .inr ⟨k, cap, cur, rfl, hB, h4, by omega, h3, by omega, ?_⟩⟩
    rw [Nat.mul_one, ← hl]
    exact h6
theorem row_blk {A : Option Addr} {n cap k : Nat} {W : World} {vs : List Value} (h : OwnG 3 W A cap k vs) : ∀ j, (Value.slice A n cap).ownBlock = some j → k = j := by
  intro j e
  rcases h with ⟨rfl, _, _⟩ | ⟨cur, rfl, _⟩
  · cases e
  · exact Option.some.inj e
theorem t3_kb {w w1 W : World} {g : Nat} (h : T3 w w1 g g g) (k : KB w.heap.size w1 W) : T3 w W g g g :=
  ⟨k.2.os.trans h.os, k.2.tape.trans h.tape, k.2.output.trans h.output, Nat.le_trans h.size k.2.size, fun j hj a b c => (k.2.block j hj).trans (h.block j hj a b c)⟩
theorem rc_push {W : World} {B g : Nat} {now x v : Int} {K : List (Int × Int)} {a b : Value} {n1 k1 n2 k2 : Nat} (hb : Blk W g 29 #[.int .i64 now, a, b]) (hg : g < B)
    (h1 : W.ownsRow B 3 1 (.slice (some ⟨n1, 0, none⟩) (K.length + 1) k1) (K.length + 1) (whoV K ++ [.int .i64 x])) (h2 : W.ownsRow B 3 1 (.slice (some ⟨n2, 0, none⟩) (K.length + 1) k2) (K.length + 1) (atV K ++ [.int .i64 v])) (h12 : n1 = n2 → False) :
    Rc ((W.setCell ⟨g, 1, none⟩ (.slice (some ⟨n1, 0, none⟩) (K.length + 1) k1)).setCell ⟨g, 2, none⟩ (.slice (some ⟨n2, 0, none⟩) (K.length + 1) k2)) g now (K ++ [(x, v)]) (some ⟨n1, 0, none⟩) k1 n1 (some ⟨n2, 0, none⟩) k2 n2 ∧ B ≤ n1 ∧ B ≤ n2 := by
  have b1 := (h1.lt n1 rfl).1
  have b2 := (h2.lt n2 rfl).1
  obtain ⟨A5, c5, g5, e5, o5, _, d5, _⟩ := row_own h1 B (Nat.le_refl _)
  obtain ⟨A6, c6, g6, e6, o6, _, d6, _⟩ := row_own h2 B (Nat.le_refl _)
  have f5 := d5 n1 rfl
  have f6 := d6 n2 rfl
  subst f5 f6
  injection e5 with e5a _ e5b
  injection e6 with e6a _ e6b
  subst e5a e5b e6a e6b
  have hk : ∀ j, j ≠ g → ((W.setCell ⟨g, 1, none⟩ (.slice (some ⟨g5, 0, none⟩) (K.length + 1) k1)).setCell ⟨g, 2, none⟩ (.slice (some ⟨g6, 0, none⟩) (K.length + 1) k2)).heap[j]? = W.heap[j]? := fun j hj => (Below.heap_setCell _ ⟨g, 2, none⟩ _ j hj).trans (Below.heap_setCell _ ⟨g, 1, none⟩ _ j hj)
  refine ⟨⟨?_, ?_, ?_, by omega, by omega, h12⟩, b1, b2⟩
  · rw [show (K ++ [(x, v)]).length = K.length + 1 by simp]
    exact (hb.set_ 1 _).set_ 2 _
  · rw [whoV_snoc]
    exact o5.keep (hk _ (by omega))
  · rw [atV_snoc]
    exact o6.keep (hk _ (by omega))
set_option maxHeartbeats 16000000 in
theorem rset_any {w : World} {g : Nat} {now : Int} {L : List (Int × Int)} {A1 A2 : Option Addr} {cap1 g1 cap2 g2 : Nat} (h : Rc w g now L A1 cap1 g1 A2 cap2 g2) (hn : L.length ≤ 1000) (x v : Int) : Calls Try.prog 12 #[.pointer (some ⟨g, 0, none⟩), .int .i64 x, .int .i64 v] w fun e w' => e = .returned (.tuple #[]) ∧ ∃ A3 cap3 g3 A4 cap4 g4, Rc w' g now (dropL L x ++ [(x, v)]) A3 cap3 g3 A4 cap4 g4 ∧ w.heap.size ≤ g3 ∧ w.heap.size ≤ g4 ∧ T3 w w' g g g := by
  obtain ⟨i0, hi, hz0, hz1, hz2⟩ := info_parts info3
  have HD := Lib.hid (rdrop_any h hn x)
  have hgl := h.bx.lt
  have HKL := Lib.hid (Nat.le_trans (dropL_le L x) hn)
  obtain ⟨K, hK⟩ : ∃ K, dropL L x = K := ⟨_, rfl⟩
  rw [hK] at HD HKL ⊢
  have hK1000 := HKL.out
  clear h hK
  go_enter Try.func12, Try.ntmps12
  go_wp2_with fail
  refine HD.out.mono ?_
  rintro _ w1 ⟨rfl, A3, cap3, g3, A4, cap4, g4, hR, b3, b4, hT⟩
  have HR := Lib.hid hR
  have HT := Lib.hid hT
  have HR1 := Lib.hid (own_row (B := w.heap.size) (n := K.length) hR.o1 (by unfold whoV; simp) b3)
  have HR2 := Lib.hid (own_row (B := w.heap.size) (n := K.length) hR.o2 (by unfold atV; simp) b4)
  have HDJ := Lib.hid (show ∀ j, (Value.slice A3 K.length cap3).ownBlock = some j → (Value.slice A4 K.length cap4).ownBlock = some j → False from fun j e1 e2 => hR.n12 ((row_blk hR.o1 j e1).trans (row_blk hR.o2 j e2).symm))
  have HBX := Lib.hid hR.bx
  have hbs : w.heap.size ≤ w1.heap.size := hT.size
  have hk0 : KB w.heap.size w1 w1 := ⟨hbs, Below.refl _ _⟩
  have r1 := hR.c1
  have r2 := hR.c2
  have s1 := hR.bx.frozen 1
  have s2 := hR.bx.frozen 2
  clear hR hT
  have ra0 : (w1.alloc (.cells #[.int .i64 x] 3)).cell? ⟨g, 1, none⟩ = some (.slice A3 K.length cap3) := (HBX.out.alloc _).cell 1
  have rb0 : (w1.alloc (.cells #[.int .i64 x] 3)).cell? ⟨g, 2, none⟩ = some (.slice A4 K.length cap4) := (HBX.out.alloc _).cell 2
  have ra1 : (w1.alloc (.cells #[.int .i64 v] 3)).cell? ⟨g, 1, none⟩ = some (.slice A3 K.length cap3) := (HBX.out.alloc _).cell 1
  have rb1 : (w1.alloc (.cells #[.int .i64 v] 3)).cell? ⟨g, 2, none⟩ = some (.slice A4 K.length cap4) := (HBX.out.alloc _).cell 2
  have ra2 : ((w1.alloc (.cells #[.int .i64 x] 3)).alloc (.cells #[.int .i64 v] 3)).cell? ⟨g, 1, none⟩ = some (.slice A3 K.length cap3) := ((HBX.out.alloc _).alloc _).cell 1
  have rb2 : ((w1.alloc (.cells #[.int .i64 x] 3)).alloc (.cells #[.int .i64 v] 3)).cell? ⟨g, 2, none⟩ = some (.slice A4 K.length cap4) := ((HBX.out.alloc _).alloc _).cell 2
  have ra3 : ((w1.alloc (.cells #[.int .i64 v] 3)).alloc (.cells #[.int .i64 x] 3)).cell? ⟨g, 1, none⟩ = some (.slice A3 K.length cap3) := ((HBX.out.alloc _).alloc _).cell 1
  have rb3 : ((w1.alloc (.cells #[.int .i64 v] 3)).alloc (.cells #[.int .i64 x] 3)).cell? ⟨g, 2, none⟩ = some (.slice A4 K.length cap4) := ((HBX.out.alloc _).alloc _).cell 2
  go_wp2_with fail
  go_region_law (first
    | (refine step_append_lies _ rfl (.tmp 14) (.tmp 16) 27 rfl w.heap.size 3 i0 _ 1 8 Try.underlying27 hi hz0 hz1 hz2 rfl (by decide) (Value.slice A3 K.length cap3) K.length (whoV K) rfl ?_ ⟨w1.heap.size, 0, none⟩ 1 1 [.int .i64 x] rfl rfl (World.news_of_block (cs := #[.int .i64 x]) (t := 3) (fr := (0, 0)) ?_) (by simp [Value.oneCell']) (by decide) (by unfold maxLen; omega) (by omega) ?_ _ rfl ?_
       focus ((repeat (first | with_reducible exact HR1.out | with_reducible refine row_alloc ?_ _ | with_reducible refine row_drew ?_)); done)
       focus (change Blk _ _ 3 #[.int .i64 x]; (repeat (first | ((with_reducible refine Blk.newEq _ _ ?_); focus (simp; done)) | with_reducible refine Blk.alloc ?_ _ | with_reducible refine Blk.drew ?_)); done)
       focus (refine Nat.le_trans hbs (show Sz w1 _ from ?_); (repeat (first | with_reducible assumption | with_reducible exact Sz.refl _ | with_reducible refine Sz.alloc ?_ _ | with_reducible refine Sz.drew ?_)); done)
       intro n1 k1 w3 hw hg hat hlt
       have hZ1 : Sz w1 w3 := Sz.grown (by (repeat (first | with_reducible assumption | with_reducible exact Sz.refl _ | with_reducible refine Sz.alloc ?_ _ | with_reducible refine Sz.drew ?_))) hg
       have hK1 : KB w.heap.size w1 w3 := KB.grown (by (repeat (first | with_reducible assumption | with_reducible refine KB.alloc ?_ _ | with_reducible refine KB.drew ?_))) hg (fun j e => (HR1.out.lt j e).1)
       have hC1 := hg.block g
       have HP2 := Lib.hid (row_kept (show World.ownsRow _ w.heap.size 3 1 (Value.slice A4 K.length cap4) K.length (atV K) from by (repeat (first | with_reducible exact HR2.out | with_reducible refine row_alloc ?_ _ | with_reducible refine row_drew ?_))) hg (fun j e1 e2 => HDJ.out j e2 e1))
       have HBX1 := Lib.hid (pastg (show Blk _ g 29 #[.int .i64 now, .slice A3 K.length cap3, .slice A4 K.length cap4] from by (repeat (first | with_reducible exact HBX.out | with_reducible refine Blk.alloc ?_ _ | with_reducible refine Blk.drew ?_))) hg (fun e => by have := (HR1.out.lt _ e).1; omega))
       (first
         | (refine have hQ2 := pastg (t := 3) (cs := #[.int .i64 v]) (G := w1.heap.size) ?_ hg (fun e => by have := (HR1.out.lt _ e).2; omega); ?_; focus ((repeat (first | ((with_reducible refine Blk.newEq _ _ ?_); focus (simp; done)) | with_reducible refine Blk.alloc ?_ _ | with_reducible refine Blk.drew ?_)); done))
         | (refine have hQ2 := pastg (t := 3) (cs := #[.int .i64 v]) (G := w1.heap.size + 1) ?_ hg (fun e => by have := (HR1.out.lt _ e).2; omega); ?_; focus ((repeat (first | ((with_reducible refine Blk.newEq _ _ ?_); focus (simp; done)) | with_reducible refine Blk.alloc ?_ _ | with_reducible refine Blk.drew ?_)); done))
         | skip)
       have HA1 := Lib.hid (show (Value.slice A3 K.length cap3).ownBlock = some n1 ∨ w1.heap.size ≤ n1 from hat.imp id (fun e => by rw [e]; show Sz w1 _; (repeat (first | with_reducible assumption | with_reducible exact Sz.refl _ | with_reducible refine Sz.alloc ?_ _ | with_reducible refine Sz.drew ?_))))
       have hlt1 := hlt
       have HW1 := Lib.hid hw
       have qa1 : w3.cell? ⟨g, 1, none⟩ = some (.slice A3 K.length cap3) := HBX1.out.cell 1
       have qb1 : w3.cell? ⟨g, 2, none⟩ = some (.slice A4 K.length cap4) := HBX1.out.cell 2
       have qe1 : (w3.alloc (.cells #[.int .i64 v] 3)).cell? ⟨g, 1, none⟩ = some (.slice A3 K.length cap3) := (HBX1.out.alloc _).cell 1
       have qf1 : (w3.alloc (.cells #[.int .i64 v] 3)).cell? ⟨g, 2, none⟩ = some (.slice A4 K.length cap4) := (HBX1.out.alloc _).cell 2
       have qc1 := HBX1.out.frozen 1
       have qd1 := HBX1.out.frozen 2
       clear hw hg hat hlt)
    | (refine step_append_lies _ rfl (.tmp 14) (.tmp 16) 27 rfl w.heap.size 3 i0 _ 1 8 Try.underlying27 hi hz0 hz1 hz2 rfl (by decide) (Value.slice A3 K.length cap3) K.length (whoV K) rfl ?_ ⟨w1.heap.size + 1, 0, none⟩ 1 1 [.int .i64 x] rfl rfl (World.news_of_block (cs := #[.int .i64 x]) (t := 3) (fr := (0, 0)) ?_) (by simp [Value.oneCell']) (by decide) (by unfold maxLen; omega) (by omega) ?_ _ rfl ?_
       focus ((repeat (first | with_reducible exact HR1.out | with_reducible refine row_alloc ?_ _ | with_reducible refine row_drew ?_)); done)
       focus (change Blk _ _ 3 #[.int .i64 x]; (repeat (first | ((with_reducible refine Blk.newEq _ _ ?_); focus (simp; done)) | with_reducible refine Blk.alloc ?_ _ | with_reducible refine Blk.drew ?_)); done)
       focus (refine Nat.le_trans hbs (show Sz w1 _ from ?_); (repeat (first | with_reducible assumption | with_reducible exact Sz.refl _ | with_reducible refine Sz.alloc ?_ _ | with_reducible refine Sz.drew ?_)); done)
       intro n1 k1 w3 hw hg hat hlt
       have hZ1 : Sz w1 w3 := Sz.grown (by (repeat (first | with_reducible assumption | with_reducible exact Sz.refl _ | with_reducible refine Sz.alloc ?_ _ | with_reducible refine Sz.drew ?_))) hg
       have hK1 : KB w.heap.size w1 w3 := KB.grown (by (repeat (first | with_reducible assumption | with_reducible refine KB.alloc ?_ _ | with_reducible refine KB.drew ?_))) hg (fun j e => (HR1.out.lt j e).1)
       have hC1 := hg.block g
       have HP2 := Lib.hid (row_kept (show World.ownsRow _ w.heap.size 3 1 (Value.slice A4 K.length cap4) K.length (atV K) from by (repeat (first | with_reducible exact HR2.out | with_reducible refine row_alloc ?_ _ | with_reducible refine row_drew ?_))) hg (fun j e1 e2 => HDJ.out j e2 e1))
       have HBX1 := Lib.hid (pastg (show Blk _ g 29 #[.int .i64 now, .slice A3 K.length cap3, .slice A4 K.length cap4] from by (repeat (first | with_reducible exact HBX.out | with_reducible refine Blk.alloc ?_ _ | with_reducible refine Blk.drew ?_))) hg (fun e => by have := (HR1.out.lt _ e).1; omega))
       (first
         | (refine have hQ2 := pastg (t := 3) (cs := #[.int .i64 v]) (G := w1.heap.size) ?_ hg (fun e => by have := (HR1.out.lt _ e).2; omega); ?_; focus ((repeat (first | ((with_reducible refine Blk.newEq _ _ ?_); focus (simp; done)) | with_reducible refine Blk.alloc ?_ _ | with_reducible refine Blk.drew ?_)); done))
         | (refine have hQ2 := pastg (t := 3) (cs := #[.int .i64 v]) (G := w1.heap.size + 1) ?_ hg (fun e => by have := (HR1.out.lt _ e).2; omega); ?_; focus ((repeat (first | ((with_reducible refine Blk.newEq _ _ ?_); focus (simp; done)) | with_reducible refine Blk.alloc ?_ _ | with_reducible refine Blk.drew ?_)); done))
         | skip)
       have HA1 := Lib.hid (show (Value.slice A3 K.length cap3).ownBlock = some n1 ∨ w1.heap.size ≤ n1 from hat.imp id (fun e => by rw [e]; show Sz w1 _; (repeat (first | with_reducible assumption | with_reducible exact Sz.refl _ | with_reducible refine Sz.alloc ?_ _ | with_reducible refine Sz.drew ?_))))
       have hlt1 := hlt
       have HW1 := Lib.hid hw
       have qa1 : w3.cell? ⟨g, 1, none⟩ = some (.slice A3 K.length cap3) := HBX1.out.cell 1
       have qb1 : w3.cell? ⟨g, 2, none⟩ = some (.slice A4 K.length cap4) := HBX1.out.cell 2
       have qe1 : (w3.alloc (.cells #[.int .i64 v] 3)).cell? ⟨g, 1, none⟩ = some (.slice A3 K.length cap3) := (HBX1.out.alloc _).cell 1
       have qf1 : (w3.alloc (.cells #[.int .i64 v] 3)).cell? ⟨g, 2, none⟩ = some (.slice A4 K.length cap4) := (HBX1.out.alloc _).cell 2
       have qc1 := HBX1.out.frozen 1
       have qd1 := HBX1.out.frozen 2
       clear hw hg hat hlt)
    | (refine step_append_lies _ rfl (.tmp 21) (.tmp 23) 27 rfl w.heap.size 3 i0 _ 1 8 Try.underlying27 hi hz0 hz1 hz2 rfl (by decide) (Value.slice A4 K.length cap4) K.length (atV K) rfl ?_ ⟨w1.heap.size, 0, none⟩ 1 1 [.int .i64 v] rfl rfl (World.news_of_block (cs := #[.int .i64 v]) (t := 3) (fr := (0, 0)) ?_) (by simp [Value.oneCell']) (by decide) (by unfold maxLen; omega) (by omega) ?_ _ rfl ?_
       focus ((repeat (first | with_reducible exact HR2.out | with_reducible refine row_alloc ?_ _ | with_reducible refine row_drew ?_)); done)
       focus (change Blk _ _ 3 #[.int .i64 v]; (repeat (first | ((with_reducible refine Blk.newEq _ _ ?_); focus (simp; done)) | with_reducible refine Blk.alloc ?_ _ | with_reducible refine Blk.drew ?_)); done)
       focus (refine Nat.le_trans hbs (show Sz w1 _ from ?_); (repeat (first | with_reducible assumption | with_reducible exact Sz.refl _ | with_reducible refine Sz.alloc ?_ _ | with_reducible refine Sz.drew ?_)); done)
       intro n2 k2 w4 hw hg hat hlt
       have hZ2 : Sz w1 w4 := Sz.grown (by (repeat (first | with_reducible assumption | with_reducible exact Sz.refl _ | with_reducible refine Sz.alloc ?_ _ | with_reducible refine Sz.drew ?_))) hg
       have hK2 : KB w.heap.size w1 w4 := KB.grown (by (repeat (first | with_reducible assumption | with_reducible refine KB.alloc ?_ _ | with_reducible refine KB.drew ?_))) hg (fun j e => (HR2.out.lt j e).1)
       have hC2 := hg.block g
       have HP1 := Lib.hid (row_kept (show World.ownsRow _ w.heap.size 3 1 (Value.slice A3 K.length cap3) K.length (whoV K) from by (repeat (first | with_reducible exact HR1.out | with_reducible refine row_alloc ?_ _ | with_reducible refine row_drew ?_))) hg (fun j e1 e2 => HDJ.out j e1 e2))
       have HBX2 := Lib.hid (pastg (show Blk _ g 29 #[.int .i64 now, .slice A3 K.length cap3, .slice A4 K.length cap4] from by (repeat (first | with_reducible exact HBX.out | with_reducible refine Blk.alloc ?_ _ | with_reducible refine Blk.drew ?_))) hg (fun e => by have := (HR2.out.lt _ e).1; omega))
       (first
         | (refine have hQ1 := pastg (t := 3) (cs := #[.int .i64 x]) (G := w1.heap.size) ?_ hg (fun e => by have := (HR2.out.lt _ e).2; omega); ?_; focus ((repeat (first | ((with_reducible refine Blk.newEq _ _ ?_); focus (simp; done)) | with_reducible refine Blk.alloc ?_ _ | with_reducible refine Blk.drew ?_)); done))
         | (refine have hQ1 := pastg (t := 3) (cs := #[.int .i64 x]) (G := w1.heap.size + 1) ?_ hg (fun e => by have := (HR2.out.lt _ e).2; omega); ?_; focus ((repeat (first | ((with_reducible refine Blk.newEq _ _ ?_); focus (simp; done)) | with_reducible refine Blk.alloc ?_ _ | with_reducible refine Blk.drew ?_)); done))
         | skip)
       have HA2 := Lib.hid (show (Value.slice A4 K.length cap4).ownBlock = some n2 ∨ w1.heap.size ≤ n2 from hat.imp id (fun e => by rw [e]; show Sz w1 _; (repeat (first | with_reducible assumption | with_reducible exact Sz.refl _ | with_reducible refine Sz.alloc ?_ _ | with_reducible refine Sz.drew ?_))))
       have hlt2 := hlt
       have HW2 := Lib.hid hw
       have qa2 : w4.cell? ⟨g, 1, none⟩ = some (.slice A3 K.length cap3) := HBX2.out.cell 1
       have qb2 : w4.cell? ⟨g, 2, none⟩ = some (.slice A4 K.length cap4) := HBX2.out.cell 2
       have qe2 : (w4.alloc (.cells #[.int .i64 x] 3)).cell? ⟨g, 1, none⟩ = some (.slice A3 K.length cap3) := (HBX2.out.alloc _).cell 1
       have qf2 : (w4.alloc (.cells #[.int .i64 x] 3)).cell? ⟨g, 2, none⟩ = some (.slice A4 K.length cap4) := (HBX2.out.alloc _).cell 2
       have qc2 := HBX2.out.frozen 1
       have qd2 := HBX2.out.frozen 2
       clear hw hg hat hlt)
    | (refine step_append_lies _ rfl (.tmp 21) (.tmp 23) 27 rfl w.heap.size 3 i0 _ 1 8 Try.underlying27 hi hz0 hz1 hz2 rfl (by decide) (Value.slice A4 K.length cap4) K.length (atV K) rfl ?_ ⟨w1.heap.size + 1, 0, none⟩ 1 1 [.int .i64 v] rfl rfl (World.news_of_block (cs := #[.int .i64 v]) (t := 3) (fr := (0, 0)) ?_) (by simp [Value.oneCell']) (by decide) (by unfold maxLen; omega) (by omega) ?_ _ rfl ?_
       focus ((repeat (first | with_reducible exact HR2.out | with_reducible refine row_alloc ?_ _ | with_reducible refine row_drew ?_)); done)
       focus (change Blk _ _ 3 #[.int .i64 v]; (repeat (first | ((with_reducible refine Blk.newEq _ _ ?_); focus (simp; done)) | with_reducible refine Blk.alloc ?_ _ | with_reducible refine Blk.drew ?_)); done)
       focus (refine Nat.le_trans hbs (show Sz w1 _ from ?_); (repeat (first | with_reducible assumption | with_reducible exact Sz.refl _ | with_reducible refine Sz.alloc ?_ _ | with_reducible refine Sz.drew ?_)); done)
       intro n2 k2 w4 hw hg hat hlt
       have hZ2 : Sz w1 w4 := Sz.grown (by (repeat (first | with_reducible assumption | with_reducible exact Sz.refl _ | with_reducible refine Sz.alloc ?_ _ | with_reducible refine Sz.drew ?_))) hg
       have hK2 : KB w.heap.size w1 w4 := KB.grown (by (repeat (first | with_reducible assumption | with_reducible refine KB.alloc ?_ _ | with_reducible refine KB.drew ?_))) hg (fun j e => (HR2.out.lt j e).1)
       have hC2 := hg.block g
       have HP1 := Lib.hid (row_kept (show World.ownsRow _ w.heap.size 3 1 (Value.slice A3 K.length cap3) K.length (whoV K) from by (repeat (first | with_reducible exact HR1.out | with_reducible refine row_alloc ?_ _ | with_reducible refine row_drew ?_))) hg (fun j e1 e2 => HDJ.out j e1 e2))
       have HBX2 := Lib.hid (pastg (show Blk _ g 29 #[.int .i64 now, .slice A3 K.length cap3, .slice A4 K.length cap4] from by (repeat (first | with_reducible exact HBX.out | with_reducible refine Blk.alloc ?_ _ | with_reducible refine Blk.drew ?_))) hg (fun e => by have := (HR2.out.lt _ e).1; omega))
       (first
         | (refine have hQ1 := pastg (t := 3) (cs := #[.int .i64 x]) (G := w1.heap.size) ?_ hg (fun e => by have := (HR2.out.lt _ e).2; omega); ?_; focus ((repeat (first | ((with_reducible refine Blk.newEq _ _ ?_); focus (simp; done)) | with_reducible refine Blk.alloc ?_ _ | with_reducible refine Blk.drew ?_)); done))
         | (refine have hQ1 := pastg (t := 3) (cs := #[.int .i64 x]) (G := w1.heap.size + 1) ?_ hg (fun e => by have := (HR2.out.lt _ e).2; omega); ?_; focus ((repeat (first | ((with_reducible refine Blk.newEq _ _ ?_); focus (simp; done)) | with_reducible refine Blk.alloc ?_ _ | with_reducible refine Blk.drew ?_)); done))
         | skip)
       have HA2 := Lib.hid (show (Value.slice A4 K.length cap4).ownBlock = some n2 ∨ w1.heap.size ≤ n2 from hat.imp id (fun e => by rw [e]; show Sz w1 _; (repeat (first | with_reducible assumption | with_reducible exact Sz.refl _ | with_reducible refine Sz.alloc ?_ _ | with_reducible refine Sz.drew ?_))))
       have hlt2 := hlt
       have HW2 := Lib.hid hw
       have qa2 : w4.cell? ⟨g, 1, none⟩ = some (.slice A3 K.length cap3) := HBX2.out.cell 1
       have qb2 : w4.cell? ⟨g, 2, none⟩ = some (.slice A4 K.length cap4) := HBX2.out.cell 2
       have qe2 : (w4.alloc (.cells #[.int .i64 x] 3)).cell? ⟨g, 1, none⟩ = some (.slice A3 K.length cap3) := (HBX2.out.alloc _).cell 1
       have qf2 : (w4.alloc (.cells #[.int .i64 x] 3)).cell? ⟨g, 2, none⟩ = some (.slice A4 K.length cap4) := (HBX2.out.alloc _).cell 2
       have qc2 := HBX2.out.frozen 1
       have qd2 := HBX2.out.frozen 2
       clear hw hg hat hlt)
    | (refine step_append_lies _ rfl (.tmp 14) (.tmp 16) 27 rfl w.heap.size 3 i0 _ 1 8 Try.underlying27 hi hz0 hz1 hz2 rfl (by decide) (Value.slice A3 K.length cap3) K.length (whoV K) rfl ?_ ⟨w4.heap.size, 0, none⟩ 1 1 [.int .i64 x] rfl rfl (World.news_of_block (cs := #[.int .i64 x]) (t := 3) (fr := (0, 0)) ?_) (by simp [Value.oneCell']) (by decide) (by unfold maxLen; omega) (by omega) ?_ _ rfl ?_
       focus ((repeat (first | with_reducible exact HP1.out | with_reducible refine row_alloc ?_ _ | with_reducible refine row_drew ?_)); done)
       focus (change Blk _ _ 3 #[.int .i64 x]; (repeat (first | ((with_reducible refine Blk.newEq _ _ ?_); focus (simp; done)) | with_reducible refine Blk.alloc ?_ _ | with_reducible refine Blk.drew ?_)); done)
       focus (refine Nat.le_trans hbs (show Sz w1 _ from ?_); (repeat (first | with_reducible assumption | with_reducible exact Sz.refl _ | with_reducible refine Sz.alloc ?_ _ | with_reducible refine Sz.drew ?_)); done)
       intro n1 k1 w3 hw hg hat hlt
       have hZ1 : Sz w1 w3 := Sz.grown (by (repeat (first | with_reducible assumption | with_reducible exact Sz.refl _ | with_reducible refine Sz.alloc ?_ _ | with_reducible refine Sz.drew ?_))) hg
       have hK1 : KB w.heap.size w1 w3 := KB.grown (by (repeat (first | with_reducible assumption | with_reducible refine KB.alloc ?_ _ | with_reducible refine KB.drew ?_))) hg (fun j e => (HR1.out.lt j e).1)
       have hC1 := hg.block g
       have HBX1 := Lib.hid (pastg (show Blk _ g 29 #[.int .i64 now, .slice A3 K.length cap3, .slice A4 K.length cap4] from by (repeat (first | with_reducible exact HBX2.out | with_reducible refine Blk.alloc ?_ _ | with_reducible refine Blk.drew ?_))) hg (fun e => by have := (HR1.out.lt _ e).1; omega))
       have HA1 := Lib.hid (show (Value.slice A3 K.length cap3).ownBlock = some n1 ∨ w4.heap.size ≤ n1 from hat.imp id (fun e => by rw [e]; show Sz w4 _; (repeat (first | with_reducible assumption | with_reducible exact Sz.refl _ | with_reducible refine Sz.alloc ?_ _ | with_reducible refine Sz.drew ?_))))
       have HX2 := Lib.hid (row_kept (show World.ownsRow _ w.heap.size 3 1 (.slice (some ⟨n2, 0, none⟩) (K.length + 1) k2) (K.length + 1) (atV K ++ [.int .i64 v]) from by (repeat (first | with_reducible exact HW2.out | with_reducible refine row_alloc ?_ _ | with_reducible refine row_drew ?_))) hg (fun j e1 e2 => by
         obtain rfl : n2 = j := Option.some.inj e1
         rcases HA2.out with e3 | e3
         · exact HDJ.out _ e2 e3
         · have := (HR1.out.lt _ e2).2
           omega))
       have HY1 := Lib.hid hw
       have qa1 : w3.cell? ⟨g, 1, none⟩ = some (.slice A3 K.length cap3) := HBX1.out.cell 1
       have qb1 : w3.cell? ⟨g, 2, none⟩ = some (.slice A4 K.length cap4) := HBX1.out.cell 2
       have qc1 := HBX1.out.frozen 1
       have qd1 := HBX1.out.frozen 2
       clear hw hg hat hlt)
    | (refine step_append_lies _ rfl (.tmp 14) (.tmp 16) 27 rfl w.heap.size 3 i0 _ 1 8 Try.underlying27 hi hz0 hz1 hz2 rfl (by decide) (Value.slice A3 K.length cap3) K.length (whoV K) rfl ?_ ⟨w1.heap.size, 0, none⟩ 1 1 [.int .i64 x] rfl rfl (World.news_of_block (cs := #[.int .i64 x]) (t := 3) (fr := (0, 0)) ?_) (by simp [Value.oneCell']) (by decide) (by unfold maxLen; omega) (by omega) ?_ _ rfl ?_
       focus ((repeat (first | with_reducible exact HP1.out | with_reducible refine row_alloc ?_ _ | with_reducible refine row_drew ?_)); done)
       focus (change Blk _ _ 3 #[.int .i64 x]; (exact hQ1); done)
       focus (refine Nat.le_trans hbs (show Sz w1 _ from ?_); (repeat (first | with_reducible assumption | with_reducible exact Sz.refl _ | with_reducible refine Sz.alloc ?_ _ | with_reducible refine Sz.drew ?_)); done)
       intro n1 k1 w3 hw hg hat hlt
       have hZ1 : Sz w1 w3 := Sz.grown (by (repeat (first | with_reducible assumption | with_reducible exact Sz.refl _ | with_reducible refine Sz.alloc ?_ _ | with_reducible refine Sz.drew ?_))) hg
       have hK1 : KB w.heap.size w1 w3 := KB.grown (by (repeat (first | with_reducible assumption | with_reducible refine KB.alloc ?_ _ | with_reducible refine KB.drew ?_))) hg (fun j e => (HR1.out.lt j e).1)
       have hC1 := hg.block g
       have HBX1 := Lib.hid (pastg (show Blk _ g 29 #[.int .i64 now, .slice A3 K.length cap3, .slice A4 K.length cap4] from by (repeat (first | with_reducible exact HBX2.out | with_reducible refine Blk.alloc ?_ _ | with_reducible refine Blk.drew ?_))) hg (fun e => by have := (HR1.out.lt _ e).1; omega))
       have HA1 := Lib.hid (show (Value.slice A3 K.length cap3).ownBlock = some n1 ∨ w4.heap.size ≤ n1 from hat.imp id (fun e => by rw [e]; show Sz w4 _; (repeat (first | with_reducible assumption | with_reducible exact Sz.refl _ | with_reducible refine Sz.alloc ?_ _ | with_reducible refine Sz.drew ?_))))
       have HX2 := Lib.hid (row_kept (show World.ownsRow _ w.heap.size 3 1 (.slice (some ⟨n2, 0, none⟩) (K.length + 1) k2) (K.length + 1) (atV K ++ [.int .i64 v]) from by (repeat (first | with_reducible exact HW2.out | with_reducible refine row_alloc ?_ _ | with_reducible refine row_drew ?_))) hg (fun j e1 e2 => by
         obtain rfl : n2 = j := Option.some.inj e1
         rcases HA2.out with e3 | e3
         · exact HDJ.out _ e2 e3
         · have := (HR1.out.lt _ e2).2
           omega))
       have HY1 := Lib.hid hw
       have qa1 : w3.cell? ⟨g, 1, none⟩ = some (.slice A3 K.length cap3) := HBX1.out.cell 1
       have qb1 : w3.cell? ⟨g, 2, none⟩ = some (.slice A4 K.length cap4) := HBX1.out.cell 2
       have qc1 := HBX1.out.frozen 1
       have qd1 := HBX1.out.frozen 2
       clear hw hg hat hlt)
    | (refine step_append_lies _ rfl (.tmp 14) (.tmp 16) 27 rfl w.heap.size 3 i0 _ 1 8 Try.underlying27 hi hz0 hz1 hz2 rfl (by decide) (Value.slice A3 K.length cap3) K.length (whoV K) rfl ?_ ⟨w1.heap.size + 1, 0, none⟩ 1 1 [.int .i64 x] rfl rfl (World.news_of_block (cs := #[.int .i64 x]) (t := 3) (fr := (0, 0)) ?_) (by simp [Value.oneCell']) (by decide) (by unfold maxLen; omega) (by omega) ?_ _ rfl ?_
       focus ((repeat (first | with_reducible exact HP1.out | with_reducible refine row_alloc ?_ _ | with_reducible refine row_drew ?_)); done)
       focus (change Blk _ _ 3 #[.int .i64 x]; (exact hQ1); done)
       focus (refine Nat.le_trans hbs (show Sz w1 _ from ?_); (repeat (first | with_reducible assumption | with_reducible exact Sz.refl _ | with_reducible refine Sz.alloc ?_ _ | with_reducible refine Sz.drew ?_)); done)
       intro n1 k1 w3 hw hg hat hlt
       have hZ1 : Sz w1 w3 := Sz.grown (by (repeat (first | with_reducible assumption | with_reducible exact Sz.refl _ | with_reducible refine Sz.alloc ?_ _ | with_reducible refine Sz.drew ?_))) hg
       have hK1 : KB w.heap.size w1 w3 := KB.grown (by (repeat (first | with_reducible assumption | with_reducible refine KB.alloc ?_ _ | with_reducible refine KB.drew ?_))) hg (fun j e => (HR1.out.lt j e).1)
       have hC1 := hg.block g
       have HBX1 := Lib.hid (pastg (show Blk _ g 29 #[.int .i64 now, .slice A3 K.length cap3, .slice A4 K.length cap4] from by (repeat (first | with_reducible exact HBX2.out | with_reducible refine Blk.alloc ?_ _ | with_reducible refine Blk.drew ?_))) hg (fun e => by have := (HR1.out.lt _ e).1; omega))
       have HA1 := Lib.hid (show (Value.slice A3 K.length cap3).ownBlock = some n1 ∨ w4.heap.size ≤ n1 from hat.imp id (fun e => by rw [e]; show Sz w4 _; (repeat (first | with_reducible assumption | with_reducible exact Sz.refl _ | with_reducible refine Sz.alloc ?_ _ | with_reducible refine Sz.drew ?_))))
       have HX2 := Lib.hid (row_kept (show World.ownsRow _ w.heap.size 3 1 (.slice (some ⟨n2, 0, none⟩) (K.length + 1) k2) (K.length + 1) (atV K ++ [.int .i64 v]) from by (repeat (first | with_reducible exact HW2.out | with_reducible refine row_alloc ?_ _ | with_reducible refine row_drew ?_))) hg (fun j e1 e2 => by
         obtain rfl : n2 = j := Option.some.inj e1
         rcases HA2.out with e3 | e3
         · exact HDJ.out _ e2 e3
         · have := (HR1.out.lt _ e2).2
           omega))
       have HY1 := Lib.hid hw
       have qa1 : w3.cell? ⟨g, 1, none⟩ = some (.slice A3 K.length cap3) := HBX1.out.cell 1
       have qb1 : w3.cell? ⟨g, 2, none⟩ = some (.slice A4 K.length cap4) := HBX1.out.cell 2
       have qc1 := HBX1.out.frozen 1
       have qd1 := HBX1.out.frozen 2
       clear hw hg hat hlt)
    | (refine step_append_lies _ rfl (.tmp 21) (.tmp 23) 27 rfl w.heap.size 3 i0 _ 1 8 Try.underlying27 hi hz0 hz1 hz2 rfl (by decide) (Value.slice A4 K.length cap4) K.length (atV K) rfl ?_ ⟨w3.heap.size, 0, none⟩ 1 1 [.int .i64 v] rfl rfl (World.news_of_block (cs := #[.int .i64 v]) (t := 3) (fr := (0, 0)) ?_) (by simp [Value.oneCell']) (by decide) (by unfold maxLen; omega) (by omega) ?_ _ rfl ?_
       focus ((repeat (first | with_reducible exact HP2.out | with_reducible refine row_alloc ?_ _ | with_reducible refine row_drew ?_)); done)
       focus (change Blk _ _ 3 #[.int .i64 v]; (repeat (first | ((with_reducible refine Blk.newEq _ _ ?_); focus (simp; done)) | with_reducible refine Blk.alloc ?_ _ | with_reducible refine Blk.drew ?_)); done)
       focus (refine Nat.le_trans hbs (show Sz w1 _ from ?_); (repeat (first | with_reducible assumption | with_reducible exact Sz.refl _ | with_reducible refine Sz.alloc ?_ _ | with_reducible refine Sz.drew ?_)); done)
       intro n2 k2 w4 hw hg hat hlt
       have hZ2 : Sz w1 w4 := Sz.grown (by (repeat (first | with_reducible assumption | with_reducible exact Sz.refl _ | with_reducible refine Sz.alloc ?_ _ | with_reducible refine Sz.drew ?_))) hg
       have hK2 : KB w.heap.size w1 w4 := KB.grown (by (repeat (first | with_reducible assumption | with_reducible refine KB.alloc ?_ _ | with_reducible refine KB.drew ?_))) hg (fun j e => (HR2.out.lt j e).1)
       have hC2 := hg.block g
       have HBX2 := Lib.hid (pastg (show Blk _ g 29 #[.int .i64 now, .slice A3 K.length cap3, .slice A4 K.length cap4] from by (repeat (first | with_reducible exact HBX1.out | with_reducible refine Blk.alloc ?_ _ | with_reducible refine Blk.drew ?_))) hg (fun e => by have := (HR2.out.lt _ e).1; omega))
       have HA2 := Lib.hid (show (Value.slice A4 K.length cap4).ownBlock = some n2 ∨ w3.heap.size ≤ n2 from hat.imp id (fun e => by rw [e]; show Sz w3 _; (repeat (first | with_reducible assumption | with_reducible exact Sz.refl _ | with_reducible refine Sz.alloc ?_ _ | with_reducible refine Sz.drew ?_))))
       have HX1 := Lib.hid (row_kept (show World.ownsRow _ w.heap.size 3 1 (.slice (some ⟨n1, 0, none⟩) (K.length + 1) k1) (K.length + 1) (whoV K ++ [.int .i64 x]) from by (repeat (first | with_reducible exact HW1.out | with_reducible refine row_alloc ?_ _ | with_reducible refine row_drew ?_))) hg (fun j e1 e2 => by
         obtain rfl : n1 = j := Option.some.inj e1
         rcases HA1.out with e3 | e3
         · exact HDJ.out _ e3 e2
         · have := (HR2.out.lt _ e2).2
           omega))
       have HY2 := Lib.hid hw
       have qa2 : w4.cell? ⟨g, 1, none⟩ = some (.slice A3 K.length cap3) := HBX2.out.cell 1
       have qb2 : w4.cell? ⟨g, 2, none⟩ = some (.slice A4 K.length cap4) := HBX2.out.cell 2
       have qc2 := HBX2.out.frozen 1
       have qd2 := HBX2.out.frozen 2
       clear hw hg hat hlt)
    | (refine step_append_lies _ rfl (.tmp 21) (.tmp 23) 27 rfl w.heap.size 3 i0 _ 1 8 Try.underlying27 hi hz0 hz1 hz2 rfl (by decide) (Value.slice A4 K.length cap4) K.length (atV K) rfl ?_ ⟨w1.heap.size, 0, none⟩ 1 1 [.int .i64 v] rfl rfl (World.news_of_block (cs := #[.int .i64 v]) (t := 3) (fr := (0, 0)) ?_) (by simp [Value.oneCell']) (by decide) (by unfold maxLen; omega) (by omega) ?_ _ rfl ?_
       focus ((repeat (first | with_reducible exact HP2.out | with_reducible refine row_alloc ?_ _ | with_reducible refine row_drew ?_)); done)
       focus (change Blk _ _ 3 #[.int .i64 v]; (exact hQ2); done)
       focus (refine Nat.le_trans hbs (show Sz w1 _ from ?_); (repeat (first | with_reducible assumption | with_reducible exact Sz.refl _ | with_reducible refine Sz.alloc ?_ _ | with_reducible refine Sz.drew ?_)); done)
       intro n2 k2 w4 hw hg hat hlt
       have hZ2 : Sz w1 w4 := Sz.grown (by (repeat (first | with_reducible assumption | with_reducible exact Sz.refl _ | with_reducible refine Sz.alloc ?_ _ | with_reducible refine Sz.drew ?_))) hg
       have hK2 : KB w.heap.size w1 w4 := KB.grown (by (repeat (first | with_reducible assumption | with_reducible refine KB.alloc ?_ _ | with_reducible refine KB.drew ?_))) hg (fun j e => (HR2.out.lt j e).1)
       have hC2 := hg.block g
       have HBX2 := Lib.hid (pastg (show Blk _ g 29 #[.int .i64 now, .slice A3 K.length cap3, .slice A4 K.length cap4] from by (repeat (first | with_reducible exact HBX1.out | with_reducible refine Blk.alloc ?_ _ | with_reducible refine Blk.drew ?_))) hg (fun e => by have := (HR2.out.lt _ e).1; omega))
       have HA2 := Lib.hid (show (Value.slice A4 K.length cap4).ownBlock = some n2 ∨ w3.heap.size ≤ n2 from hat.imp id (fun e => by rw [e]; show Sz w3 _; (repeat (first | with_reducible assumption | with_reducible exact Sz.refl _ | with_reducible refine Sz.alloc ?_ _ | with_reducible refine Sz.drew ?_))))
       have HX1 := Lib.hid (row_kept (show World.ownsRow _ w.heap.size 3 1 (.slice (some ⟨n1, 0, none⟩) (K.length + 1) k1) (K.length + 1) (whoV K ++ [.int .i64 x]) from by (repeat (first | with_reducible exact HW1.out | with_reducible refine row_alloc ?_ _ | with_reducible refine row_drew ?_))) hg (fun j e1 e2 => by
         obtain rfl : n1 = j := Option.some.inj e1
         rcases HA1.out with e3 | e3
         · exact HDJ.out _ e3 e2
         · have := (HR2.out.lt _ e2).2
           omega))
       have HY2 := Lib.hid hw
       have qa2 : w4.cell? ⟨g, 1, none⟩ = some (.slice A3 K.length cap3) := HBX2.out.cell 1
       have qb2 : w4.cell? ⟨g, 2, none⟩ = some (.slice A4 K.length cap4) := HBX2.out.cell 2
       have qc2 := HBX2.out.frozen 1
       have qd2 := HBX2.out.frozen 2
       clear hw hg hat hlt)
    | (refine step_append_lies _ rfl (.tmp 21) (.tmp 23) 27 rfl w.heap.size 3 i0 _ 1 8 Try.underlying27 hi hz0 hz1 hz2 rfl (by decide) (Value.slice A4 K.length cap4) K.length (atV K) rfl ?_ ⟨w1.heap.size + 1, 0, none⟩ 1 1 [.int .i64 v] rfl rfl (World.news_of_block (cs := #[.int .i64 v]) (t := 3) (fr := (0, 0)) ?_) (by simp [Value.oneCell']) (by decide) (by unfold maxLen; omega) (by omega) ?_ _ rfl ?_
       focus ((repeat (first | with_reducible exact HP2.out | with_reducible refine row_alloc ?_ _ | with_reducible refine row_drew ?_)); done)
       focus (change Blk _ _ 3 #[.int .i64 v]; (exact hQ2); done)
       focus (refine Nat.le_trans hbs (show Sz w1 _ from ?_); (repeat (first | with_reducible assumption | with_reducible exact Sz.refl _ | with_reducible refine Sz.alloc ?_ _ | with_reducible refine Sz.drew ?_)); done)
       intro n2 k2 w4 hw hg hat hlt
       have hZ2 : Sz w1 w4 := Sz.grown (by (repeat (first | with_reducible assumption | with_reducible exact Sz.refl _ | with_reducible refine Sz.alloc ?_ _ | with_reducible refine Sz.drew ?_))) hg
       have hK2 : KB w.heap.size w1 w4 := KB.grown (by (repeat (first | with_reducible assumption | with_reducible refine KB.alloc ?_ _ | with_reducible refine KB.drew ?_))) hg (fun j e => (HR2.out.lt j e).1)
       have hC2 := hg.block g
       have HBX2 := Lib.hid (pastg (show Blk _ g 29 #[.int .i64 now, .slice A3 K.length cap3, .slice A4 K.length cap4] from by (repeat (first | with_reducible exact HBX1.out | with_reducible refine Blk.alloc ?_ _ | with_reducible refine Blk.drew ?_))) hg (fun e => by have := (HR2.out.lt _ e).1; omega))
       have HA2 := Lib.hid (show (Value.slice A4 K.length cap4).ownBlock = some n2 ∨ w3.heap.size ≤ n2 from hat.imp id (fun e => by rw [e]; show Sz w3 _; (repeat (first | with_reducible assumption | with_reducible exact Sz.refl _ | with_reducible refine Sz.alloc ?_ _ | with_reducible refine Sz.drew ?_))))
       have HX1 := Lib.hid (row_kept (show World.ownsRow _ w.heap.size 3 1 (.slice (some ⟨n1, 0, none⟩) (K.length + 1) k1) (K.length + 1) (whoV K ++ [.int .i64 x]) from by (repeat (first | with_reducible exact HW1.out | with_reducible refine row_alloc ?_ _ | with_reducible refine row_drew ?_))) hg (fun j e1 e2 => by
         obtain rfl : n1 = j := Option.some.inj e1
         rcases HA1.out with e3 | e3
         · exact HDJ.out _ e3 e2
         · have := (HR2.out.lt _ e2).2
           omega))
       have HY2 := Lib.hid hw
       have qa2 : w4.cell? ⟨g, 1, none⟩ = some (.slice A3 K.length cap3) := HBX2.out.cell 1
       have qb2 : w4.cell? ⟨g, 2, none⟩ = some (.slice A4 K.length cap4) := HBX2.out.cell 2
       have qc2 := HBX2.out.frozen 1
       have qd2 := HBX2.out.frozen 2
       clear hw hg hat hlt))
  all_goals (
    (first
      | (have HZ1 := HX1
         have HZ2 := HY2
         have HBF := HBX2
         have HKF := Lib.hid hK2
         have HDN := Lib.hid (show n1 = n2 → False from fun e => by
           subst e
           rcases HA2.out with e2 | e2
           · rcases HA1.out with e1 | e1
             · exact HDJ.out _ e1 e2
             · have := (HR2.out.lt _ e2).2
               omega
           · omega))
      | (have HZ1 := HY1
         have HZ2 := HX2
         have HBF := HBX1
         have HKF := Lib.hid hK1
         have HDN := Lib.hid (show n1 = n2 → False from fun e => by
           subst e
           rcases HA1.out with e2 | e2
           · rcases HA2.out with e1 | e1
             · exact HDJ.out _ e2 e1
             · have := (HR1.out.lt _ e2).2
               omega
           · omega)))
    have hp := rc_push HBF.out hgl HZ1.out HZ2.out HDN.out
    have HP := Lib.hid hp
    have HTF := Lib.hid ((((t3_kb HT.out HKF.out).set (p := ⟨g, 1, none⟩) rfl (.slice (some ⟨n1, 0, none⟩) (K.length + 1) k1)).set (p := ⟨g, 2, none⟩) rfl (.slice (some ⟨n2, 0, none⟩) (K.length + 1) k2)))
    clear hp
    go_wp2
    go_end0
    exact ⟨rfl, _, _, _, _, _, _, HP.out.1, HP.out.2.1, HP.out.2.2, HTF.out⟩)
end Go.Proofs.Ytchjgojagmhpeaa
