/- The reference's clock: Drop. -/
import Derived.Test.YtchjgojagmhpeaaRa
import Derived.Test.YtchjgojagmhpeaaCa
import Derived.Deep.RegionHeld3
import Derived.Deep.AppendLies
namespace Go.Proofs.Ytchjgojagmhpeaa
open Go.RowKit Go.Maps
open Go.Lib
set_option linter.unusedVariables false
set_option linter.unusedSimpArgs false
set_option maxRecDepth 100000
def Sz (w0 W : World) : Prop := w0.heap.size ≤ W.heap.size
theorem Sz.refl (w : World) : Sz w w := Nat.le_refl _
theorem Sz.alloc {w0 W : World} (h : Sz w0 W) (o : Obj) : Sz w0 (W.alloc o) := Nat.le_trans h (by simp)
theorem Sz.drew {w0 W : World} (h : Sz w0 W) : Sz w0 W.drew := h
theorem Sz.grown {w0 W W' : World} {row : Option Nat} (h : Sz w0 W) (hg : W.grownBy W' row) : Sz w0 W' := Nat.le_trans h hg.size
/-- All that lies below B is as it was. -/
def KB (B : Nat) (w0 W : World) : Prop := B ≤ w0.heap.size ∧ Below B w0 W
theorem KB.alloc {B : Nat} {w0 W : World} (h : KB B w0 W) (o : Obj) : KB B w0 (W.alloc o) := ⟨h.1, h.2.alloc (Nat.le_trans h.1 h.2.size) o⟩
theorem KB.drew {B : Nat} {w0 W : World} (h : KB B w0 W) : KB B w0 W.drew := ⟨h.1, h.2.drew⟩
theorem KB.grown {B : Nat} {w0 W W' : World} {row : Option Nat} (h : KB B w0 W) (hg : W.grownBy W' row) (hr : ∀ k, row = some k → B ≤ k) : KB B w0 W' := ⟨h.1, h.2.grown hg (Nat.le_trans h.1 h.2.size) hr⟩
theorem KB.trans {B : Nat} {a b c : World} (h : KB B a b) (k : KB B b c) : KB B a c := ⟨h.1, h.2.trans k.2⟩
theorem Blk.newEq {w : World} {g : Nat} (t : TypeId) (cs : Array Value) (e : w.heap.size = g) : Blk (w.alloc (.cells cs t)) g t cs := e ▸ Blk.new w t cs
theorem pastg {Wc w2 : World} {G : Nat} {t : TypeId} {cs : Array Value} {row : Option Nat} (h : Blk Wc G t cs) (hg : Wc.grownBy w2 row) (hr : row = some G → False) : Blk w2 G t cs := (hg.block G h.lt (fun e => hr e.symm)).trans h
theorem row_keep {W w2 : World} {B : Nat} {v : Value} {n : Nat} {vs : List Value} (h : W.ownsRow B 3 1 v n vs) (hb : ∀ j, v.ownBlock = some j → w2.heap[j]? = W.heap[j]?) : w2.ownsRow B 3 1 v n vs := by
  obtain ⟨h0, h3 | ⟨b, cap, cur, e1, e2, e3, e4⟩⟩ := h
  · exact ⟨h0, .inl h3⟩
  · exact ⟨h0, .inr ⟨b, cap, cur, e1, e2, (hb b (by rw [e1]; rfl)).trans e3, e4⟩⟩
theorem row_alloc {W : World} {B : Nat} {v : Value} {n : Nat} {vs : List Value} (h : W.ownsRow B 3 1 v n vs) (o : Obj) : (W.alloc o).ownsRow B 3 1 v n vs := row_keep h (fun j hj => Below.heap_alloc W o j (h.lt j hj).2)
theorem row_drew {W : World} {B : Nat} {v : Value} {n : Nat} {vs : List Value} (h : W.ownsRow B 3 1 v n vs) : W.drew.ownsRow B 3 1 v n vs := row_keep h (fun _ _ => rfl)
theorem row_kept {W w2 : World} {B : Nat} {v : Value} {n : Nat} {vs : List Value} {row : Option Nat} (h : W.ownsRow B 3 1 v n vs) (hg : W.grownBy w2 row) (hr : ∀ j, v.ownBlock = some j → row = some j → False) : w2.ownsRow B 3 1 v n vs := row_keep h (fun j hj => hg.block j (h.lt j hj).2 (fun e => hr j hj e.symm))
theorem row_own {W : World} {B : Nat} {v : Value} {n : Nat} {vs : List Value} (h : W.ownsRow B 3 1 v n vs) (G : Nat) (hG : B ≤ G) : ∃ A cap k, v = .slice A n cap ∧ OwnG 3 W A cap k vs ∧ B ≤ k ∧ (∀ j, v.ownBlock = some j → k = j) ∧ (v.ownBlock = none → k = G) := by
  obtain ⟨h0, ⟨rfl, h2⟩ | ⟨b, cap, cur, rfl, e2, e3, e4, e5, e6, e7⟩⟩ := h
  · subst h2
    exact ⟨none, 0, G, rfl, .inl ⟨rfl, rfl, List.length_eq_zero_iff.1 (by simpa using h0)⟩, hG, fun j e => (by cases e), fun _ => rfl⟩
  · rw [Nat.mul_one] at h0 e6 e7
    exact ⟨_, cap, b, rfl, .inr ⟨cur, rfl, by rw [h0]; exact e4, e5, e3, e6, by rw [h0]; exact e7⟩, e2, fun j e => (by cases e; rfl), fun e => (by cases e)⟩
def dropL (L : List (Int × Int)) (x : Int) : List (Int × Int) := L.filter (fun p => p.1 != x)
theorem whoV_snoc (K : List (Int × Int)) (p : Int × Int) : whoV (K ++ [p]) = whoV K ++ [.int .i64 p.1] := by unfold whoV; simp
theorem atV_snoc (K : List (Int × Int)) (p : Int × Int) : atV (K ++ [p]) = atV K ++ [.int .i64 p.2] := by unfold atV; simp
theorem dropL_snoc (L : List (Int × Int)) (x : Int) (q : Nat) (p : Int × Int) (h : L[q]? = some p) : dropL (L.take (q + 1)) x = if p.1 = x then dropL (L.take q) x else dropL (L.take q) x ++ [p] := by
  unfold dropL
  rw [List.take_add_one, h]
  by_cases hp : p.1 = x
  · rw [if_pos hp]; simp [hp]
  · rw [if_neg hp]; simp [hp]
theorem dropL_le (L : List (Int × Int)) (x : Int) : (dropL L x).length ≤ L.length := List.length_filter_le _ _
set_option maxHeartbeats 16000000 in
theorem rdrop_any {w : World} {g : Nat} {now : Int} {L : List (Int × Int)} {A1 A2 : Option Addr} {cap1 g1 cap2 g2 : Nat} (h : Rc w g now L A1 cap1 g1 A2 cap2 g2) (hn : L.length ≤ 1000) (x : Int) : Calls Try.prog 14 #[.pointer (some ⟨g, 0, none⟩), .int .i64 x] w fun e w' => e = .returned (.bool (decide ((dropL L x).length < L.length))) ∧ ∃ A3 cap3 g3 A4 cap4 g4, Rc w' g now (dropL L x) A3 cap3 g3 A4 cap4 g4 ∧ w.heap.size ≤ g3 ∧ w.heap.size ≤ g4 ∧ T3 w w' g g g := by
  obtain ⟨i0, hi, hz0, hz1, hz2⟩ := info_parts info3
  have HR := Lib.hid h
  have c1 := h.c1
  have c2 := h.c2
  have hnI : (L.length : Int) ≤ 1000 := by omega
  have hgl := h.bx.lt
  have HK0 := Lib.hid (show KB w.heap.size w w from ⟨Nat.le_refl _, Below.refl _ _⟩)
  clear h
  go_enter Try.func14, Try.ntmps14
  go_wp2
  go_loopw [5, 6, 7] (fun u a i wr => ∃ q : Nat, q ≤ L.length ∧ i = .int .i64 (q : Int) ∧ wr.ownsRow w.heap.size 3 1 u (dropL (L.take q) x).length (whoV (dropL (L.take q) x)) ∧ wr.ownsRow w.heap.size 3 1 a (dropL (L.take q) x).length (atV (dropL (L.take q) x)) ∧ (∀ j, u.ownBlock = some j → a.ownBlock = some j → False) ∧ KB w.heap.size w wr) (fun _ _ i _ => L.length - (intOf i).toNat)
  case atStart => exact ⟨0, Nat.zero_le _, rfl, World.ownsRow_nil _ _ _ _, World.ownsRow_nil _ _ _ _, fun j e => (by cases e), HK0.out⟩
  case round =>
    obtain ⟨q, hq, rfl, hr1, hr2, hdj, hkb⟩ := hrel
    have HR1 := Lib.hid hr1
    have HR2 := Lib.hid hr2
    have HDJ := Lib.hid hdj
    have HKB := Lib.hid hkb
    have r1 : wr.cell? ⟨g, 1, none⟩ = some (.slice A1 L.length cap1) := (World.cell?_of_block (a := ⟨g, 1, none⟩) (hkb.2.block g hgl)).trans c1
    have r2 : wr.cell? ⟨g, 2, none⟩ = some (.slice A2 L.length cap2) := (World.cell?_of_block (a := ⟨g, 2, none⟩) (hkb.2.block g hgl)).trans c2
    have hbs : w.heap.size ≤ wr.heap.size := hkb.2.size
    clear hr1 hr2 hdj hkb
    by_cases hql : q < L.length
    · obtain ⟨p, hp⟩ : ∃ p, L[q]? = some p := ⟨L[q], List.getElem?_eq_getElem _⟩
      obtain ⟨rfl, l1, b1, d1, f1⟩ := HR.out.o1.cell (whoV_get hp)
      obtain ⟨rfl, l2, b2, d2, f2⟩ := HR.out.o2.cell (atV_get hp)
      have m1 := (World.cell?_of_block (a := ⟨g1, q, none⟩) (HKB.out.2.block g1 b1)).trans d1
      have m2 := (World.cell?_of_block (a := ⟨g2, q, none⟩) (HKB.out.2.block g2 b2)).trans d2
      have HSN := Lib.hid (dropL_snoc L x q p hp)
      have l1' : L.length ≤ cap1 := by unfold whoV at l1; rwa [List.length_map] at l1
      have l2' : L.length ≤ cap2 := by unfold atV at l2; rwa [List.length_map] at l2
      have hqI : (q : Int) < (L.length : Int) := by omega
      have HKL := Lib.hid (Nat.le_trans (dropL_le (L.take q) x) (by rw [List.length_take]; omega : (L.take q).length ≤ 1000))
      obtain ⟨K, hK⟩ : ∃ K, dropL (L.take q) x = K := ⟨_, rfl⟩
      rw [hK] at HR1 HR2 HSN HKL
      have hK1000 := HKL.out
      obtain ⟨pw, pa⟩ := p
      simp only at m1 m2 HSN
      clear hp l1 l2 d1 d2 f1 f2 hK
      by_cases hx : pw = x
      · have hb : (pw != x) = false := by simpa using hx
        have HE := Lib.hid (show dropL (L.take (q + 1)) x = K by rw [HSN.out, if_pos hx])
        clear hx HSN
        go_wp2
        go_roundw
        case rel => exact ⟨q + 1, by omega, by go_num, by rw [HE.out]; exact HR1.out, by rw [HE.out]; exact HR2.out, HDJ.out, HKB.out⟩
        case measure => simp [intOf]; omega
      · have hb : (pw != x) = true := by simpa using hx
        have HE := Lib.hid (show dropL (L.take (q + 1)) x = K ++ [(pw, pa)] by rw [HSN.out, if_neg hx])
        have HKR := Lib.hid (show KB w.heap.size wr wr from ⟨hbs, Below.refl _ _⟩)
        have hk0 := HKR.out
        have HS := Lib.hid (fun W (hk : KB w.heap.size wr W) => show W.cell? ⟨g, 1, none⟩ = some (.slice (some ⟨g1, 0, none⟩) L.length cap1) ∧ W.cell? ⟨g, 2, none⟩ = some (.slice (some ⟨g2, 0, none⟩) L.length cap2) ∧ W.cell? ⟨g1, q, none⟩ = some (.int .i64 pw) ∧ W.cell? ⟨g2, q, none⟩ = some (.int .i64 pa) from ⟨(World.cell?_of_block (a := ⟨g, 1, none⟩) (hk.2.block g hgl)).trans r1, (World.cell?_of_block (a := ⟨g, 2, none⟩) (hk.2.block g hgl)).trans r2, (World.cell?_of_block (a := ⟨g1, q, none⟩) (hk.2.block g1 b1)).trans m1, (World.cell?_of_block (a := ⟨g2, q, none⟩) (hk.2.block g2 b2)).trans m2⟩)
        have SS := HS.out wr.drew hk0.drew
        clear hx HSN
        go_wp2_with fail
        go_region_held3 (fun W => W.cell? ⟨g, 1, none⟩ = some (.slice (some ⟨g1, 0, none⟩) L.length cap1) ∧ W.cell? ⟨g, 2, none⟩ = some (.slice (some ⟨g2, 0, none⟩) L.length cap2) ∧ W.cell? ⟨g1, q, none⟩ = some (.int .i64 pw) ∧ W.cell? ⟨g2, q, none⟩ = some (.int .i64 pa)) (exact HS.out _ (by (repeat (first | with_reducible assumption | with_reducible exact KB.refl _ _ | with_reducible refine KB.alloc ?_ _ | with_reducible refine KB.drew ?_)))) (first
          | (refine step_append_lies _ rfl (.tmp 27) (.tmp 35) 27 rfl w.heap.size 3 i0 _ 1 8 Try.underlying27 hi hz0 hz1 hz2 rfl (by decide) u5 K.length (whoV K) rfl ?_ ⟨wr.heap.size, 0, none⟩ 1 1 [.int .i64 pw] rfl rfl (World.news_of_block (cs := #[.int .i64 pw]) (t := 3) (fr := (0, 0)) ?_) (by simp [Value.oneCell']) (by decide) (by unfold maxLen; omega) (by omega) ?_ _ rfl ?_
             focus ((repeat (first | with_reducible exact HR1.out | with_reducible refine row_alloc ?_ _ | with_reducible refine row_drew ?_)); done)
             focus (change Blk _ _ 3 #[.int .i64 pw]; (repeat (first | ((with_reducible refine Blk.newEq _ _ ?_); focus (simp; done)) | with_reducible refine Blk.alloc ?_ _ | with_reducible refine Blk.drew ?_)); done)
             focus (refine Nat.le_trans hbs (show Sz wr _ from ?_); (repeat (first | with_reducible assumption | with_reducible exact Sz.refl _ | with_reducible refine Sz.alloc ?_ _ | with_reducible refine Sz.drew ?_)); done)
             intro n1 k1 w1 hw hg hat hlt
             have hK1 : KB w.heap.size wr w1 := KB.grown (by (repeat (first | with_reducible assumption | with_reducible exact KB.refl _ _ | with_reducible refine KB.alloc ?_ _ | with_reducible refine KB.drew ?_))) hg (fun j e => (HR1.out.lt j e).1)
             have hZ1 : Sz wr w1 := Sz.grown (by (repeat (first | with_reducible assumption | with_reducible exact Sz.refl _ | with_reducible refine Sz.alloc ?_ _ | with_reducible refine Sz.drew ?_))) hg
             have HP2 := Lib.hid (row_kept (show World.ownsRow _ w.heap.size 3 1 u6 K.length (atV K) from by (repeat (first | with_reducible exact HR2.out | with_reducible refine row_alloc ?_ _ | with_reducible refine row_drew ?_))) hg (fun j e1 e2 => HDJ.out j e2 e1))
             (first
               | (refine have hQ2 := pastg (t := 3) (cs := #[.int .i64 pa]) (G := wr.heap.size) ?_ hg (fun e => by have := (HR1.out.lt _ e).2; omega); ?_; focus ((repeat (first | ((with_reducible refine Blk.newEq _ _ ?_); focus (simp; done)) | with_reducible refine Blk.alloc ?_ _ | with_reducible refine Blk.drew ?_)); done))
               | (refine have hQ2 := pastg (t := 3) (cs := #[.int .i64 pa]) (G := wr.heap.size + 1) ?_ hg (fun e => by have := (HR1.out.lt _ e).2; omega); ?_; focus ((repeat (first | ((with_reducible refine Blk.newEq _ _ ?_); focus (simp; done)) | with_reducible refine Blk.alloc ?_ _ | with_reducible refine Blk.drew ?_)); done))
               | skip)
             have HA1 := Lib.hid (show u5.ownBlock = some n1 ∨ wr.heap.size ≤ n1 from hat.imp id (fun e => by rw [e]; show Sz wr _; (repeat (first | with_reducible assumption | with_reducible exact Sz.refl _ | with_reducible refine Sz.alloc ?_ _ | with_reducible refine Sz.drew ?_))))
             have hlt1 := hlt
             have HW1 := Lib.hid hw
             clear hw hg hat hlt)
          | (refine step_append_lies _ rfl (.tmp 27) (.tmp 35) 27 rfl w.heap.size 3 i0 _ 1 8 Try.underlying27 hi hz0 hz1 hz2 rfl (by decide) u5 K.length (whoV K) rfl ?_ ⟨wr.heap.size + 1, 0, none⟩ 1 1 [.int .i64 pw] rfl rfl (World.news_of_block (cs := #[.int .i64 pw]) (t := 3) (fr := (0, 0)) ?_) (by simp [Value.oneCell']) (by decide) (by unfold maxLen; omega) (by omega) ?_ _ rfl ?_
             focus ((repeat (first | with_reducible exact HR1.out | with_reducible refine row_alloc ?_ _ | with_reducible refine row_drew ?_)); done)
             focus (change Blk _ _ 3 #[.int .i64 pw]; (repeat (first | ((with_reducible refine Blk.newEq _ _ ?_); focus (simp; done)) | with_reducible refine Blk.alloc ?_ _ | with_reducible refine Blk.drew ?_)); done)
             focus (refine Nat.le_trans hbs (show Sz wr _ from ?_); (repeat (first | with_reducible assumption | with_reducible exact Sz.refl _ | with_reducible refine Sz.alloc ?_ _ | with_reducible refine Sz.drew ?_)); done)
             intro n1 k1 w1 hw hg hat hlt
             have hK1 : KB w.heap.size wr w1 := KB.grown (by (repeat (first | with_reducible assumption | with_reducible exact KB.refl _ _ | with_reducible refine KB.alloc ?_ _ | with_reducible refine KB.drew ?_))) hg (fun j e => (HR1.out.lt j e).1)
             have hZ1 : Sz wr w1 := Sz.grown (by (repeat (first | with_reducible assumption | with_reducible exact Sz.refl _ | with_reducible refine Sz.alloc ?_ _ | with_reducible refine Sz.drew ?_))) hg
             have HP2 := Lib.hid (row_kept (show World.ownsRow _ w.heap.size 3 1 u6 K.length (atV K) from by (repeat (first | with_reducible exact HR2.out | with_reducible refine row_alloc ?_ _ | with_reducible refine row_drew ?_))) hg (fun j e1 e2 => HDJ.out j e2 e1))
             (first
               | (refine have hQ2 := pastg (t := 3) (cs := #[.int .i64 pa]) (G := wr.heap.size) ?_ hg (fun e => by have := (HR1.out.lt _ e).2; omega); ?_; focus ((repeat (first | ((with_reducible refine Blk.newEq _ _ ?_); focus (simp; done)) | with_reducible refine Blk.alloc ?_ _ | with_reducible refine Blk.drew ?_)); done))
               | (refine have hQ2 := pastg (t := 3) (cs := #[.int .i64 pa]) (G := wr.heap.size + 1) ?_ hg (fun e => by have := (HR1.out.lt _ e).2; omega); ?_; focus ((repeat (first | ((with_reducible refine Blk.newEq _ _ ?_); focus (simp; done)) | with_reducible refine Blk.alloc ?_ _ | with_reducible refine Blk.drew ?_)); done))
               | skip)
             have HA1 := Lib.hid (show u5.ownBlock = some n1 ∨ wr.heap.size ≤ n1 from hat.imp id (fun e => by rw [e]; show Sz wr _; (repeat (first | with_reducible assumption | with_reducible exact Sz.refl _ | with_reducible refine Sz.alloc ?_ _ | with_reducible refine Sz.drew ?_))))
             have hlt1 := hlt
             have HW1 := Lib.hid hw
             clear hw hg hat hlt)
          | (refine step_append_lies _ rfl (.tmp 37) (.tmp 45) 27 rfl w.heap.size 3 i0 _ 1 8 Try.underlying27 hi hz0 hz1 hz2 rfl (by decide) u6 K.length (atV K) rfl ?_ ⟨wr.heap.size, 0, none⟩ 1 1 [.int .i64 pa] rfl rfl (World.news_of_block (cs := #[.int .i64 pa]) (t := 3) (fr := (0, 0)) ?_) (by simp [Value.oneCell']) (by decide) (by unfold maxLen; omega) (by omega) ?_ _ rfl ?_
             focus ((repeat (first | with_reducible exact HR2.out | with_reducible refine row_alloc ?_ _ | with_reducible refine row_drew ?_)); done)
             focus (change Blk _ _ 3 #[.int .i64 pa]; (repeat (first | ((with_reducible refine Blk.newEq _ _ ?_); focus (simp; done)) | with_reducible refine Blk.alloc ?_ _ | with_reducible refine Blk.drew ?_)); done)
             focus (refine Nat.le_trans hbs (show Sz wr _ from ?_); (repeat (first | with_reducible assumption | with_reducible exact Sz.refl _ | with_reducible refine Sz.alloc ?_ _ | with_reducible refine Sz.drew ?_)); done)
             intro n2 k2 w2 hw hg hat hlt
             have hK2 : KB w.heap.size wr w2 := KB.grown (by (repeat (first | with_reducible assumption | with_reducible exact KB.refl _ _ | with_reducible refine KB.alloc ?_ _ | with_reducible refine KB.drew ?_))) hg (fun j e => (HR2.out.lt j e).1)
             have hZ2 : Sz wr w2 := Sz.grown (by (repeat (first | with_reducible assumption | with_reducible exact Sz.refl _ | with_reducible refine Sz.alloc ?_ _ | with_reducible refine Sz.drew ?_))) hg
             have HP1 := Lib.hid (row_kept (show World.ownsRow _ w.heap.size 3 1 u5 K.length (whoV K) from by (repeat (first | with_reducible exact HR1.out | with_reducible refine row_alloc ?_ _ | with_reducible refine row_drew ?_))) hg (fun j e1 e2 => HDJ.out j e1 e2))
             (first
               | (refine have hQ1 := pastg (t := 3) (cs := #[.int .i64 pw]) (G := wr.heap.size) ?_ hg (fun e => by have := (HR2.out.lt _ e).2; omega); ?_; focus ((repeat (first | ((with_reducible refine Blk.newEq _ _ ?_); focus (simp; done)) | with_reducible refine Blk.alloc ?_ _ | with_reducible refine Blk.drew ?_)); done))
               | (refine have hQ1 := pastg (t := 3) (cs := #[.int .i64 pw]) (G := wr.heap.size + 1) ?_ hg (fun e => by have := (HR2.out.lt _ e).2; omega); ?_; focus ((repeat (first | ((with_reducible refine Blk.newEq _ _ ?_); focus (simp; done)) | with_reducible refine Blk.alloc ?_ _ | with_reducible refine Blk.drew ?_)); done))
               | skip)
             have HA2 := Lib.hid (show u6.ownBlock = some n2 ∨ wr.heap.size ≤ n2 from hat.imp id (fun e => by rw [e]; show Sz wr _; (repeat (first | with_reducible assumption | with_reducible exact Sz.refl _ | with_reducible refine Sz.alloc ?_ _ | with_reducible refine Sz.drew ?_))))
             have hlt2 := hlt
             have HW2 := Lib.hid hw
             clear hw hg hat hlt)
          | (refine step_append_lies _ rfl (.tmp 37) (.tmp 45) 27 rfl w.heap.size 3 i0 _ 1 8 Try.underlying27 hi hz0 hz1 hz2 rfl (by decide) u6 K.length (atV K) rfl ?_ ⟨wr.heap.size + 1, 0, none⟩ 1 1 [.int .i64 pa] rfl rfl (World.news_of_block (cs := #[.int .i64 pa]) (t := 3) (fr := (0, 0)) ?_) (by simp [Value.oneCell']) (by decide) (by unfold maxLen; omega) (by omega) ?_ _ rfl ?_
             focus ((repeat (first | with_reducible exact HR2.out | with_reducible refine row_alloc ?_ _ | with_reducible refine row_drew ?_)); done)
             focus (change Blk _ _ 3 #[.int .i64 pa]; (repeat (first | ((with_reducible refine Blk.newEq _ _ ?_); focus (simp; done)) | with_reducible refine Blk.alloc ?_ _ | with_reducible refine Blk.drew ?_)); done)
             focus (refine Nat.le_trans hbs (show Sz wr _ from ?_); (repeat (first | with_reducible assumption | with_reducible exact Sz.refl _ | with_reducible refine Sz.alloc ?_ _ | with_reducible refine Sz.drew ?_)); done)
             intro n2 k2 w2 hw hg hat hlt
             have hK2 : KB w.heap.size wr w2 := KB.grown (by (repeat (first | with_reducible assumption | with_reducible exact KB.refl _ _ | with_reducible refine KB.alloc ?_ _ | with_reducible refine KB.drew ?_))) hg (fun j e => (HR2.out.lt j e).1)
             have hZ2 : Sz wr w2 := Sz.grown (by (repeat (first | with_reducible assumption | with_reducible exact Sz.refl _ | with_reducible refine Sz.alloc ?_ _ | with_reducible refine Sz.drew ?_))) hg
             have HP1 := Lib.hid (row_kept (show World.ownsRow _ w.heap.size 3 1 u5 K.length (whoV K) from by (repeat (first | with_reducible exact HR1.out | with_reducible refine row_alloc ?_ _ | with_reducible refine row_drew ?_))) hg (fun j e1 e2 => HDJ.out j e1 e2))
             (first
               | (refine have hQ1 := pastg (t := 3) (cs := #[.int .i64 pw]) (G := wr.heap.size) ?_ hg (fun e => by have := (HR2.out.lt _ e).2; omega); ?_; focus ((repeat (first | ((with_reducible refine Blk.newEq _ _ ?_); focus (simp; done)) | with_reducible refine Blk.alloc ?_ _ | with_reducible refine Blk.drew ?_)); done))
               | (refine have hQ1 := pastg (t := 3) (cs := #[.int .i64 pw]) (G := wr.heap.size + 1) ?_ hg (fun e => by have := (HR2.out.lt _ e).2; omega); ?_; focus ((repeat (first | ((with_reducible refine Blk.newEq _ _ ?_); focus (simp; done)) | with_reducible refine Blk.alloc ?_ _ | with_reducible refine Blk.drew ?_)); done))
               | skip)
             have HA2 := Lib.hid (show u6.ownBlock = some n2 ∨ wr.heap.size ≤ n2 from hat.imp id (fun e => by rw [e]; show Sz wr _; (repeat (first | with_reducible assumption | with_reducible exact Sz.refl _ | with_reducible refine Sz.alloc ?_ _ | with_reducible refine Sz.drew ?_))))
             have hlt2 := hlt
             have HW2 := Lib.hid hw
             clear hw hg hat hlt)
          | (refine step_append_lies _ rfl (.tmp 27) (.tmp 35) 27 rfl w.heap.size 3 i0 _ 1 8 Try.underlying27 hi hz0 hz1 hz2 rfl (by decide) u5 K.length (whoV K) rfl ?_ ⟨w2.heap.size, 0, none⟩ 1 1 [.int .i64 pw] rfl rfl (World.news_of_block (cs := #[.int .i64 pw]) (t := 3) (fr := (0, 0)) ?_) (by simp [Value.oneCell']) (by decide) (by unfold maxLen; omega) (by omega) ?_ _ rfl ?_
             focus ((repeat (first | with_reducible exact HP1.out | with_reducible refine row_alloc ?_ _ | with_reducible refine row_drew ?_)); done)
             focus (change Blk _ _ 3 #[.int .i64 pw]; (repeat (first | ((with_reducible refine Blk.newEq _ _ ?_); focus (simp; done)) | with_reducible refine Blk.alloc ?_ _ | with_reducible refine Blk.drew ?_)); done)
             focus (refine Nat.le_trans hbs (show Sz wr _ from ?_); (repeat (first | with_reducible assumption | with_reducible exact Sz.refl _ | with_reducible refine Sz.alloc ?_ _ | with_reducible refine Sz.drew ?_)); done)
             intro n1 k1 w1 hw hg hat hlt
             have hK1 : KB w.heap.size wr w1 := KB.grown (by (repeat (first | with_reducible assumption | with_reducible exact KB.refl _ _ | with_reducible refine KB.alloc ?_ _ | with_reducible refine KB.drew ?_))) hg (fun j e => (HR1.out.lt j e).1)
             have hZ1 : Sz wr w1 := Sz.grown (by (repeat (first | with_reducible assumption | with_reducible exact Sz.refl _ | with_reducible refine Sz.alloc ?_ _ | with_reducible refine Sz.drew ?_))) hg
             have HA1 := Lib.hid (show u5.ownBlock = some n1 ∨ w2.heap.size ≤ n1 from hat.imp id (fun e => by rw [e]; show Sz w2 _; (repeat (first | with_reducible assumption | with_reducible exact Sz.refl _ | with_reducible refine Sz.alloc ?_ _ | with_reducible refine Sz.drew ?_))))
             have HX2 := Lib.hid (row_kept (show World.ownsRow _ w.heap.size 3 1 (.slice (some ⟨n2, 0, none⟩) (K.length + 1) k2) (K.length + 1) (atV K ++ [.int .i64 pa]) from by (repeat (first | with_reducible exact HW2.out | with_reducible refine row_alloc ?_ _ | with_reducible refine row_drew ?_))) hg (fun j e1 e2 => by
               obtain rfl : n2 = j := Option.some.inj e1
               rcases HA2.out with e3 | e3
               · exact HDJ.out _ e2 e3
               · have := (HR1.out.lt _ e2).2
                 omega))
             have HY1 := Lib.hid hw
             clear hw hg hat hlt)
          | (refine step_append_lies _ rfl (.tmp 27) (.tmp 35) 27 rfl w.heap.size 3 i0 _ 1 8 Try.underlying27 hi hz0 hz1 hz2 rfl (by decide) u5 K.length (whoV K) rfl ?_ ⟨wr.heap.size, 0, none⟩ 1 1 [.int .i64 pw] rfl rfl (World.news_of_block (cs := #[.int .i64 pw]) (t := 3) (fr := (0, 0)) ?_) (by simp [Value.oneCell']) (by decide) (by unfold maxLen; omega) (by omega) ?_ _ rfl ?_
             focus ((repeat (first | with_reducible exact HP1.out | with_reducible refine row_alloc ?_ _ | with_reducible refine row_drew ?_)); done)
             focus (change Blk _ _ 3 #[.int .i64 pw]; (exact hQ1); done)
             focus (refine Nat.le_trans hbs (show Sz wr _ from ?_); (repeat (first | with_reducible assumption | with_reducible exact Sz.refl _ | with_reducible refine Sz.alloc ?_ _ | with_reducible refine Sz.drew ?_)); done)
             intro n1 k1 w1 hw hg hat hlt
             have hK1 : KB w.heap.size wr w1 := KB.grown (by (repeat (first | with_reducible assumption | with_reducible exact KB.refl _ _ | with_reducible refine KB.alloc ?_ _ | with_reducible refine KB.drew ?_))) hg (fun j e => (HR1.out.lt j e).1)
             have hZ1 : Sz wr w1 := Sz.grown (by (repeat (first | with_reducible assumption | with_reducible exact Sz.refl _ | with_reducible refine Sz.alloc ?_ _ | with_reducible refine Sz.drew ?_))) hg
             have HA1 := Lib.hid (show u5.ownBlock = some n1 ∨ w2.heap.size ≤ n1 from hat.imp id (fun e => by rw [e]; show Sz w2 _; (repeat (first | with_reducible assumption | with_reducible exact Sz.refl _ | with_reducible refine Sz.alloc ?_ _ | with_reducible refine Sz.drew ?_))))
             have HX2 := Lib.hid (row_kept (show World.ownsRow _ w.heap.size 3 1 (.slice (some ⟨n2, 0, none⟩) (K.length + 1) k2) (K.length + 1) (atV K ++ [.int .i64 pa]) from by (repeat (first | with_reducible exact HW2.out | with_reducible refine row_alloc ?_ _ | with_reducible refine row_drew ?_))) hg (fun j e1 e2 => by
               obtain rfl : n2 = j := Option.some.inj e1
               rcases HA2.out with e3 | e3
               · exact HDJ.out _ e2 e3
               · have := (HR1.out.lt _ e2).2
                 omega))
             have HY1 := Lib.hid hw
             clear hw hg hat hlt)
          | (refine step_append_lies _ rfl (.tmp 27) (.tmp 35) 27 rfl w.heap.size 3 i0 _ 1 8 Try.underlying27 hi hz0 hz1 hz2 rfl (by decide) u5 K.length (whoV K) rfl ?_ ⟨wr.heap.size + 1, 0, none⟩ 1 1 [.int .i64 pw] rfl rfl (World.news_of_block (cs := #[.int .i64 pw]) (t := 3) (fr := (0, 0)) ?_) (by simp [Value.oneCell']) (by decide) (by unfold maxLen; omega) (by omega) ?_ _ rfl ?_
             focus ((repeat (first | with_reducible exact HP1.out | with_reducible refine row_alloc ?_ _ | with_reducible refine row_drew ?_)); done)
             focus (change Blk _ _ 3 #[.int .i64 pw]; (exact hQ1); done)
             focus (refine Nat.le_trans hbs (show Sz wr _ from ?_); (repeat (first | with_reducible assumption | with_reducible exact Sz.refl _ | with_reducible refine Sz.alloc ?_ _ | with_reducible refine Sz.drew ?_)); done)
             intro n1 k1 w1 hw hg hat hlt
             have hK1 : KB w.heap.size wr w1 := KB.grown (by (repeat (first | with_reducible assumption | with_reducible exact KB.refl _ _ | with_reducible refine KB.alloc ?_ _ | with_reducible refine KB.drew ?_))) hg (fun j e => (HR1.out.lt j e).1)
             have hZ1 : Sz wr w1 := Sz.grown (by (repeat (first | with_reducible assumption | with_reducible exact Sz.refl _ | with_reducible refine Sz.alloc ?_ _ | with_reducible refine Sz.drew ?_))) hg
             have HA1 := Lib.hid (show u5.ownBlock = some n1 ∨ w2.heap.size ≤ n1 from hat.imp id (fun e => by rw [e]; show Sz w2 _; (repeat (first | with_reducible assumption | with_reducible exact Sz.refl _ | with_reducible refine Sz.alloc ?_ _ | with_reducible refine Sz.drew ?_))))
             have HX2 := Lib.hid (row_kept (show World.ownsRow _ w.heap.size 3 1 (.slice (some ⟨n2, 0, none⟩) (K.length + 1) k2) (K.length + 1) (atV K ++ [.int .i64 pa]) from by (repeat (first | with_reducible exact HW2.out | with_reducible refine row_alloc ?_ _ | with_reducible refine row_drew ?_))) hg (fun j e1 e2 => by
               obtain rfl : n2 = j := Option.some.inj e1
               rcases HA2.out with e3 | e3
               · exact HDJ.out _ e2 e3
               · have := (HR1.out.lt _ e2).2
                 omega))
             have HY1 := Lib.hid hw
             clear hw hg hat hlt)
          | (refine step_append_lies _ rfl (.tmp 37) (.tmp 45) 27 rfl w.heap.size 3 i0 _ 1 8 Try.underlying27 hi hz0 hz1 hz2 rfl (by decide) u6 K.length (atV K) rfl ?_ ⟨w1.heap.size, 0, none⟩ 1 1 [.int .i64 pa] rfl rfl (World.news_of_block (cs := #[.int .i64 pa]) (t := 3) (fr := (0, 0)) ?_) (by simp [Value.oneCell']) (by decide) (by unfold maxLen; omega) (by omega) ?_ _ rfl ?_
             focus ((repeat (first | with_reducible exact HP2.out | with_reducible refine row_alloc ?_ _ | with_reducible refine row_drew ?_)); done)
             focus (change Blk _ _ 3 #[.int .i64 pa]; (repeat (first | ((with_reducible refine Blk.newEq _ _ ?_); focus (simp; done)) | with_reducible refine Blk.alloc ?_ _ | with_reducible refine Blk.drew ?_)); done)
             focus (refine Nat.le_trans hbs (show Sz wr _ from ?_); (repeat (first | with_reducible assumption | with_reducible exact Sz.refl _ | with_reducible refine Sz.alloc ?_ _ | with_reducible refine Sz.drew ?_)); done)
             intro n2 k2 w2 hw hg hat hlt
             have hK2 : KB w.heap.size wr w2 := KB.grown (by (repeat (first | with_reducible assumption | with_reducible exact KB.refl _ _ | with_reducible refine KB.alloc ?_ _ | with_reducible refine KB.drew ?_))) hg (fun j e => (HR2.out.lt j e).1)
             have hZ2 : Sz wr w2 := Sz.grown (by (repeat (first | with_reducible assumption | with_reducible exact Sz.refl _ | with_reducible refine Sz.alloc ?_ _ | with_reducible refine Sz.drew ?_))) hg
             have HA2 := Lib.hid (show u6.ownBlock = some n2 ∨ w1.heap.size ≤ n2 from hat.imp id (fun e => by rw [e]; show Sz w1 _; (repeat (first | with_reducible assumption | with_reducible exact Sz.refl _ | with_reducible refine Sz.alloc ?_ _ | with_reducible refine Sz.drew ?_))))
             have HX1 := Lib.hid (row_kept (show World.ownsRow _ w.heap.size 3 1 (.slice (some ⟨n1, 0, none⟩) (K.length + 1) k1) (K.length + 1) (whoV K ++ [.int .i64 pw]) from by (repeat (first | with_reducible exact HW1.out | with_reducible refine row_alloc ?_ _ | with_reducible refine row_drew ?_))) hg (fun j e1 e2 => by
               obtain rfl : n1 = j := Option.some.inj e1
               rcases HA1.out with e3 | e3
               · exact HDJ.out _ e3 e2
               · have := (HR2.out.lt _ e2).2
                 omega))
             have HY2 := Lib.hid hw
             clear hw hg hat hlt)
          | (refine step_append_lies _ rfl (.tmp 37) (.tmp 45) 27 rfl w.heap.size 3 i0 _ 1 8 Try.underlying27 hi hz0 hz1 hz2 rfl (by decide) u6 K.length (atV K) rfl ?_ ⟨wr.heap.size, 0, none⟩ 1 1 [.int .i64 pa] rfl rfl (World.news_of_block (cs := #[.int .i64 pa]) (t := 3) (fr := (0, 0)) ?_) (by simp [Value.oneCell']) (by decide) (by unfold maxLen; omega) (by omega) ?_ _ rfl ?_
             focus ((repeat (first | with_reducible exact HP2.out | with_reducible refine row_alloc ?_ _ | with_reducible refine row_drew ?_)); done)
             focus (change Blk _ _ 3 #[.int .i64 pa]; (exact hQ2); done)
             focus (refine Nat.le_trans hbs (show Sz wr _ from ?_); (repeat (first | with_reducible assumption | with_reducible exact Sz.refl _ | with_reducible refine Sz.alloc ?_ _ | with_reducible refine Sz.drew ?_)); done)
             intro n2 k2 w2 hw hg hat hlt
             have hK2 : KB w.heap.size wr w2 := KB.grown (by (repeat (first | with_reducible assumption | with_reducible exact KB.refl _ _ | with_reducible refine KB.alloc ?_ _ | with_reducible refine KB.drew ?_))) hg (fun j e => (HR2.out.lt j e).1)
             have hZ2 : Sz wr w2 := Sz.grown (by (repeat (first | with_reducible assumption | with_reducible exact Sz.refl _ | with_reducible refine Sz.alloc ?_ _ | with_reducible refine Sz.drew ?_))) hg
             have HA2 := Lib.hid (show u6.ownBlock = some n2 ∨ w1.heap.size ≤ n2 from hat.imp id (fun e => by rw [e]; show Sz w1 _; (repeat (first | with_reducible assumption | with_reducible exact Sz.refl _ | with_reducible refine Sz.alloc ?_ _ | with_reducible refine Sz.drew ?_))))
             have HX1 := Lib.hid (row_kept (show World.ownsRow _ w.heap.size 3 1 (.slice (some ⟨n1, 0, none⟩) (K.length + 1) k1) (K.length + 1) (whoV K ++ [.int .i64 pw]) from by (repeat (first | with_reducible exact HW1.out | with_reducible refine row_alloc ?_ _ | with_reducible refine row_drew ?_))) hg (fun j e1 e2 => by
               obtain rfl : n1 = j := Option.some.inj e1
               rcases HA1.out with e3 | e3
               · exact HDJ.out _ e3 e2
               · have := (HR2.out.lt _ e2).2
                 omega))
             have HY2 := Lib.hid hw
             clear hw hg hat hlt)
          | (refine step_append_lies _ rfl (.tmp 37) (.tmp 45) 27 rfl w.heap.size 3 i0 _ 1 8 Try.underlying27 hi hz0 hz1 hz2 rfl (by decide) u6 K.length (atV K) rfl ?_ ⟨wr.heap.size + 1, 0, none⟩ 1 1 [.int .i64 pa] rfl rfl (World.news_of_block (cs := #[.int .i64 pa]) (t := 3) (fr := (0, 0)) ?_) (by simp [Value.oneCell']) (by decide) (by unfold maxLen; omega) (by omega) ?_ _ rfl ?_
             focus ((repeat (first | with_reducible exact HP2.out | with_reducible refine row_alloc ?_ _ | with_reducible refine row_drew ?_)); done)
             focus (change Blk _ _ 3 #[.int .i64 pa]; (exact hQ2); done)
             focus (refine Nat.le_trans hbs (show Sz wr _ from ?_); (repeat (first | with_reducible assumption | with_reducible exact Sz.refl _ | with_reducible refine Sz.alloc ?_ _ | with_reducible refine Sz.drew ?_)); done)
             intro n2 k2 w2 hw hg hat hlt
             have hK2 : KB w.heap.size wr w2 := KB.grown (by (repeat (first | with_reducible assumption | with_reducible exact KB.refl _ _ | with_reducible refine KB.alloc ?_ _ | with_reducible refine KB.drew ?_))) hg (fun j e => (HR2.out.lt j e).1)
             have hZ2 : Sz wr w2 := Sz.grown (by (repeat (first | with_reducible assumption | with_reducible exact Sz.refl _ | with_reducible refine Sz.alloc ?_ _ | with_reducible refine Sz.drew ?_))) hg
             have HA2 := Lib.hid (show u6.ownBlock = some n2 ∨ w1.heap.size ≤ n2 from hat.imp id (fun e => by rw [e]; show Sz w1 _; (repeat (first | with_reducible assumption | with_reducible exact Sz.refl _ | with_reducible refine Sz.alloc ?_ _ | with_reducible refine Sz.drew ?_))))
             have HX1 := Lib.hid (row_kept (show World.ownsRow _ w.heap.size 3 1 (.slice (some ⟨n1, 0, none⟩) (K.length + 1) k1) (K.length + 1) (whoV K ++ [.int .i64 pw]) from by (repeat (first | with_reducible exact HW1.out | with_reducible refine row_alloc ?_ _ | with_reducible refine row_drew ?_))) hg (fun j e1 e2 => by
               obtain rfl : n1 = j := Option.some.inj e1
               rcases HA1.out with e3 | e3
               · exact HDJ.out _ e3 e2
               · have := (HR2.out.lt _ e2).2
                 omega))
             have HY2 := Lib.hid hw
             clear hw hg hat hlt))
        all_goals (
          (first
            | (have HZ1 := HX1
               have HZ2 := HY2
               have HKF := Lib.hid (HKB.out.trans hK2)
               have HDN := Lib.hid (show n1 = n2 → False from fun e => by
                 subst e
                 rcases HA2.out with e2 | e2
                 · rcases HA1.out with e1 | e1
                   · exact HDJ.out _ e1 e2
                   · have := (HR2.out.lt _ e2).2
                     omega
                 · omega))
            | (have HZ1 := HY1
               have HZ2 := HX2
               have HKF := Lib.hid (HKB.out.trans hK1)
               have HDN := Lib.hid (show n1 = n2 → False from fun e => by
                 subst e
                 rcases HA1.out with e2 | e2
                 · rcases HA2.out with e1 | e1
                   · exact HDJ.out _ e2 e1
                   · have := (HR1.out.lt _ e2).2
                     omega
                 · omega)))
          go_wp2
          go_roundw
          case rel => exact ⟨q + 1, by omega, by go_num, by rw [HE.out, List.length_append, whoV_snoc]; exact HZ1.out, by rw [HE.out, List.length_append, atV_snoc]; exact HZ2.out, fun j e1 e2 => HDN.out ((Option.some.inj e1).trans (Option.some.inj e2).symm), HKF.out⟩
          case measure => simp [intOf]; omega)
    · obtain rfl : q = L.length := by omega
      rw [List.take_length] at HR1 HR2
      obtain ⟨A3, cap3, g3, rfl, o3, b3, d3, e3⟩ := row_own HR1.out wr.heap.size hbs
      obtain ⟨A4, cap4, g4, rfl, o4, b4, d4, e4⟩ := row_own HR2.out (wr.heap.size + 1) (by omega)
      have hne : g3 ≠ g4 := by
        intro e
        cases h3 : (Value.slice A3 (dropL L x).length cap3).ownBlock with
        | none =>
          have f3 := e3 h3
          cases h4 : (Value.slice A4 (dropL L x).length cap4).ownBlock with
          | none => have f4 := e4 h4; omega
          | some k => have f4 := d4 k h4; have := (HR2.out.lt k h4).2; omega
        | some k =>
          have f3 := d3 k h3
          have l3 := (HR1.out.lt k h3).2
          cases h4 : (Value.slice A4 (dropL L x).length cap4).ownBlock with
          | none => have f4 := e4 h4; omega
          | some m => have f4 := d4 m h4; exact HDJ.out k h3 (by rw [h4]; congr 1; omega)
      have hbx : Blk wr g 29 #[.int .i64 now, .slice A1 L.length cap1, .slice A2 L.length cap2] := (HKB.out.2.block g hgl).trans HR.out.bx
      have rf1 := hbx.frozen 1
      have rf2 := hbx.frozen 2
      have hk : ∀ j, j ≠ g → ((wr.setCell ⟨g, 1, none⟩ (.slice A3 (dropL L x).length cap3)).setCell ⟨g, 2, none⟩ (.slice A4 (dropL L x).length cap4)).heap[j]? = wr.heap[j]? := fun j hj => (Below.heap_setCell _ ⟨g, 2, none⟩ _ j hj).trans (Below.heap_setCell _ ⟨g, 1, none⟩ _ j hj)
      have HF := Lib.hid (show Rc ((wr.setCell ⟨g, 1, none⟩ (.slice A3 (dropL L x).length cap3)).setCell ⟨g, 2, none⟩ (.slice A4 (dropL L x).length cap4)) g now (dropL L x) A3 cap3 g3 A4 cap4 g4 from
        ⟨(hbx.set_ 1 _).set_ 2 _, o3.keep (hk g3 (by omega)), o4.keep (hk g4 (by omega)), by omega, by omega, hne⟩)
      have HT := Lib.hid (show T3 w ((wr.setCell ⟨g, 1, none⟩ (.slice A3 (dropL L x).length cap3)).setCell ⟨g, 2, none⟩ (.slice A4 (dropL L x).length cap4)) g g g from ((T3.of HKB.out.2).set (p := ⟨g, 1, none⟩) rfl _).set (p := ⟨g, 2, none⟩) rfl _)
      clear hk hbx hne o3 o4 d3 d4 e3 e4
      go_wp2
      go_ret
      exact ⟨by simp, A3, cap3, g3, A4, cap4, g4, HF.out, b3, b4, HT.out⟩
end Go.Proofs.Ytchjgojagmhpeaa
