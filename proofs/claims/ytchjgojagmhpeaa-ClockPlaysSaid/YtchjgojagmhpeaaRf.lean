/- The reference's clock: All. -/
import Derived.Test.YtchjgojagmhpeaaRe
import Derived.Deep.CutRange
namespace Go.Proofs.Ytchjgojagmhpeaa
open Go.RowKit Go.Maps
open Go.Lib
set_option linter.unusedVariables false
set_option linter.unusedSimpArgs false
set_option maxRecDepth 100000
theorem swap_rows {w W : World} {B n1 k1 n2 k2 M k : Nat} {K : List (Int × Int)} {pw pa rw ra : Int} (h1 : W.ownsRow B 3 1 (.slice (some ⟨n1, 0, none⟩) M k1) M (whoV (putAt (pw, pa) K (k + 1)))) (h2 : W.ownsRow B 3 1 (.slice (some ⟨n2, 0, none⟩) M k2) M (atV (putAt (pw, pa) K (k + 1)))) (hne : n1 = n2 → False)
    (hs : ((putAt (pw, pa) K (k + 1)).set k (pw, pa)).set (k + 1) (rw, ra) = putAt (pw, pa) K k) (hk : KB B w W) :
    (((((W.setCell ⟨n1, k, none⟩ (.int .i64 pw)).setCell ⟨n1, k + 1, none⟩ (.int .i64 rw)).setCell ⟨n2, k, none⟩ (.int .i64 pa)).setCell ⟨n2, k + 1, none⟩ (.int .i64 ra)).drew).ownsRow B 3 1 (.slice (some ⟨n1, 0, none⟩) M k1) M (whoV (putAt (pw, pa) K k)) ∧
    (((((W.setCell ⟨n1, k, none⟩ (.int .i64 pw)).setCell ⟨n1, k + 1, none⟩ (.int .i64 rw)).setCell ⟨n2, k, none⟩ (.int .i64 pa)).setCell ⟨n2, k + 1, none⟩ (.int .i64 ra)).drew).ownsRow B 3 1 (.slice (some ⟨n2, 0, none⟩) M k2) M (atV (putAt (pw, pa) K k)) ∧
    KB B w (((((W.setCell ⟨n1, k, none⟩ (.int .i64 pw)).setCell ⟨n1, k + 1, none⟩ (.int .i64 rw)).setCell ⟨n2, k, none⟩ (.int .i64 pa)).setCell ⟨n2, k + 1, none⟩ (.int .i64 ra)).drew) := by
  have b1 := (h1.lt n1 rfl).1
  have b2 := (h2.lt n2 rfl).1
  have e1 : ((whoV (putAt (pw, pa) K (k + 1))).set k (.int .i64 pw)).set (k + 1) (.int .i64 rw) = whoV (putAt (pw, pa) K k) := by
    rw [← hs]
    unfold whoV
    rw [List.map_set, List.map_set]
  have e2 : ((atV (putAt (pw, pa) K (k + 1))).set k (.int .i64 pa)).set (k + 1) (.int .i64 ra) = atV (putAt (pw, pa) K k) := by
    rw [← hs]
    unfold atV
    rw [List.map_set, List.map_set]
  refine ⟨?_, ?_, ?_⟩
  · rw [← e1]
    exact row_drew (row_other (row_other (row_set (row_set h1 k _) (k + 1) _) hne k _) hne (k + 1) _)
  · rw [← e2]
    exact row_drew (row_set (row_set (row_other (row_other h2 (fun e => hne e.symm) k _) (fun e => hne e.symm) (k + 1) _) k _) (k + 1) _)
  · exact ⟨hk.1, ((((hk.2.setCell (p := ⟨n1, k, none⟩) b1 _).setCell (p := ⟨n1, k + 1, none⟩) b1 _).setCell (p := ⟨n2, k, none⟩) b2 _).setCell (p := ⟨n2, k + 1, none⟩) b2 _).drew⟩
set_option maxHeartbeats 16000000 in
theorem rall_any {w : World} {g : Nat} {now : Int} {L : List (Int × Int)} {A1 A2 : Option Addr} {cap1 g1 cap2 g2 : Nat} (h : Rc w g now L A1 cap1 g1 A2 cap2 g2) (hn : L.length ≤ 1000) : Calls Try.prog 22 #[.pointer (some ⟨g, 0, none⟩)] w fun e w' => ∃ A cap k, e = .returned (.slice A (rAll now L).length cap) ∧ OwnG 3 w' A cap k (whoV (rAll now L)) ∧ Below w.heap.size w w' := by
  obtain ⟨i0, hi, hz0, hz1, hz2⟩ := info_parts info3
  have HR := Lib.hid h
  have c0 := h.c0
  have c1 := h.c1
  have c2 := h.c2
  have hnI : (L.length : Int) ≤ 1000 := by omega
  have hgl := h.bx.lt
  have HK0 := Lib.hid (show KB w.heap.size w w from ⟨Nat.le_refl _, Below.refl _ _⟩)
  clear h
  go_enter Try.func22, Try.ntmps22
  go_wp2
  go_loopw [3, 4, 5] (fun u a i wr => ∃ q : Nat, q ≤ L.length ∧ i = .int .i64 (q : Int) ∧ wr.ownsRow w.heap.size 3 1 u (rAll now (L.take q)).length (whoV (rAll now (L.take q))) ∧ wr.ownsRow w.heap.size 3 1 a (rAll now (L.take q)).length (atV (rAll now (L.take q))) ∧ (∀ j, u.ownBlock = some j → a.ownBlock = some j → False) ∧ KB w.heap.size w wr) (fun _ _ i _ => L.length - (intOf i).toNat)
  case atStart => exact ⟨0, Nat.zero_le _, rfl, World.ownsRow_nil _ _ _ _, World.ownsRow_nil _ _ _ _, fun j e => (by cases e), HK0.out⟩
  case round =>
    obtain ⟨q, hq, rfl, hr1, hr2, hdj, hkb⟩ := hrel
    have HR1 := Lib.hid hr1
    have HR2 := Lib.hid hr2
    have HDJ := Lib.hid hdj
    have HKB := Lib.hid hkb
    have r0 : wr.cell? ⟨g, 0, none⟩ = some (.int .i64 now) := (World.cell?_of_block (a := ⟨g, 0, none⟩) (hkb.2.block g hgl)).trans c0
    have r1 : wr.cell? ⟨g, 1, none⟩ = some (.slice A1 L.length cap1) := (World.cell?_of_block (a := ⟨g, 1, none⟩) (hkb.2.block g hgl)).trans c1
    have r2 : wr.cell? ⟨g, 2, none⟩ = some (.slice A2 L.length cap2) := (World.cell?_of_block (a := ⟨g, 2, none⟩) (hkb.2.block g hgl)).trans c2
    have hbs : w.heap.size ≤ wr.heap.size := hkb.2.size
    clear hr1 hr2 hdj hkb
    by_cases hql : q < L.length
    · obtain ⟨p, hp⟩ : ∃ p, L[q]? = some p := ⟨L[q], List.getElem?_eq_getElem _⟩
      obtain ⟨rfl, l1, b1, d1, f1⟩ := HR.out.o1.cell (whoV_get hp)
      obtain ⟨rfl, l2, b2, d2, f2⟩ := HR.out.o2.cell (atV_get hp)
      have m1 := (World.cell?_of_block (a := ⟨g1, q, none⟩) (HKB.out.2.block g1 b1)).trans d1
      have m2 := (World.cell?_of_block (a := ⟨g2, q, none⟩) (HKB.out.2.block g2 b2)).trans d2
      have HSN := Lib.hid (rAll_snoc now L q p hp)
      have l1' : L.length ≤ cap1 := by unfold whoV at l1; rwa [List.length_map] at l1
      have l2' : L.length ≤ cap2 := by unfold atV at l2; rwa [List.length_map] at l2
      have hqI : (q : Int) < (L.length : Int) := by omega
      have HKL := Lib.hid (Nat.le_trans (rAll_le now (L.take q)) (by rw [List.length_take]; omega : (L.take q).length ≤ 1000))
      obtain ⟨K, hK⟩ : ∃ K, rAll now (L.take q) = K := ⟨_, rfl⟩
      rw [hK] at HR1 HR2 HSN HKL
      have hK1000 := HKL.out
      obtain ⟨pw, pa⟩ := p
      simp only at m1 m2 HSN
      clear hp l1 l2 d1 d2 f1 f2 hK
      by_cases hx : now < pa
      · have HE := Lib.hid (show rAll now (L.take (q + 1)) = K by rw [HSN.out, if_neg (by omega)])
        clear HSN
        go_wp2
        go_quiet (fail)
        have HKQ := Lib.hid (show KB w.heap.size w (wr.drewN nq) from ⟨HKB.out.1, below_drewN HKB.out.2 nq⟩)
        go_wp2
        go_roundw
        case rel => exact ⟨q + 1, by omega, by go_num, by rw [HE.out]; exact row_keep HR1.out (fun _ _ => rfl), by rw [HE.out]; exact row_keep HR2.out (fun _ _ => rfl), HDJ.out, HKQ.out⟩
        case measure => simp [intOf]; omega
      · have HE := Lib.hid (show rAll now (L.take (q + 1)) = rIns K (pw, pa) by rw [HSN.out, if_pos (by omega)])
        clear HSN
        go_wp2
        go_quiet (fail)
        go_wp2_with fail
        obtain ⟨wq, hwq⟩ : ∃ W, wr.drewN nq = W := ⟨_, rfl⟩
        have HQ1 := Lib.hid (show wq.ownsRow w.heap.size 3 1 u3 K.length (whoV K) from hwq ▸ row_keep HR1.out (fun _ _ => rfl))
        have HQ2 := Lib.hid (show wq.ownsRow w.heap.size 3 1 u4 K.length (atV K) from hwq ▸ row_keep HR2.out (fun _ _ => rfl))
        have HKQ := Lib.hid (show KB w.heap.size w wq from hwq ▸ ⟨HKB.out.1, below_drewN HKB.out.2 nq⟩)
        have z1 : wq.cell? ⟨g, 1, none⟩ = some (.slice (some ⟨g1, 0, none⟩) L.length cap1) := hwq ▸ r1
        have z2 : wq.cell? ⟨g, 2, none⟩ = some (.slice (some ⟨g2, 0, none⟩) L.length cap2) := hwq ▸ r2
        have z3 : wq.cell? ⟨g1, q, none⟩ = some (.int .i64 pw) := hwq ▸ m1
        have z4 : wq.cell? ⟨g2, q, none⟩ = some (.int .i64 pa) := hwq ▸ m2
        rw [hwq]
        clear hwq HR1 HR2 HKB r0 r1 r2 m1 m2 hbs
        have HR1 := HQ1
        have HR2 := HQ2
        have HKB := HKQ
        have hbs : w.heap.size ≤ wq.heap.size := HKQ.out.2.size
        have hk0 : KB w.heap.size wq wq := ⟨hbs, Below.refl _ _⟩
        have HS := Lib.hid (fun W (hk : KB w.heap.size wq W) => show W.cell? ⟨g, 1, none⟩ = some (.slice (some ⟨g1, 0, none⟩) L.length cap1) ∧ W.cell? ⟨g, 2, none⟩ = some (.slice (some ⟨g2, 0, none⟩) L.length cap2) ∧ W.cell? ⟨g1, q, none⟩ = some (.int .i64 pw) ∧ W.cell? ⟨g2, q, none⟩ = some (.int .i64 pa) from ⟨(World.cell?_of_block (a := ⟨g, 1, none⟩) (hk.2.block g hgl)).trans z1, (World.cell?_of_block (a := ⟨g, 2, none⟩) (hk.2.block g hgl)).trans z2, (World.cell?_of_block (a := ⟨g1, q, none⟩) (hk.2.block g1 b1)).trans z3, (World.cell?_of_block (a := ⟨g2, q, none⟩) (hk.2.block g2 b2)).trans z4⟩)
        have SS := HS.out wq.drew hk0.drew
        clear z1 z2 z3 z4 HQ1 HQ2 HKQ
        go_cut [3, 4] from 7 to 122 (fun x y wx => ∃ n1 k1 n2 k2 : Nat, x = .slice (some ⟨n1, 0, none⟩) (K.length + 1) k1 ∧ y = .slice (some ⟨n2, 0, none⟩) (K.length + 1) k2 ∧ wx.ownsRow w.heap.size 3 1 (.slice (some ⟨n1, 0, none⟩) (K.length + 1) k1) (K.length + 1) (whoV K ++ [.int .i64 pw]) ∧ wx.ownsRow w.heap.size 3 1 (.slice (some ⟨n2, 0, none⟩) (K.length + 1) k2) (K.length + 1) (atV K ++ [.int .i64 pa]) ∧ (n1 = n2 → False) ∧ KB w.heap.size w wx)
        case first =>
          go_region_held3 (fun W => W.cell? ⟨g, 1, none⟩ = some (.slice (some ⟨g1, 0, none⟩) L.length cap1) ∧ W.cell? ⟨g, 2, none⟩ = some (.slice (some ⟨g2, 0, none⟩) L.length cap2) ∧ W.cell? ⟨g1, q, none⟩ = some (.int .i64 pw) ∧ W.cell? ⟨g2, q, none⟩ = some (.int .i64 pa)) (exact HS.out _ (by (repeat (first | with_reducible assumption | with_reducible exact KB.refl _ _ | with_reducible refine KB.alloc ?_ _ | with_reducible refine KB.drew ?_)))) (first
            | (refine step_append_lies _ rfl (.tmp 28) (.tmp 36) 27 rfl w.heap.size 3 i0 _ 1 8 Try.underlying27 hi hz0 hz1 hz2 rfl (by decide) u3 K.length (whoV K) rfl ?_ ⟨wq.heap.size, 0, none⟩ 1 1 [.int .i64 pw] rfl rfl (World.news_of_block (cs := #[.int .i64 pw]) (t := 3) (fr := (0, 0)) ?_) (by simp [Value.oneCell']) (by decide) (by unfold maxLen; omega) (by omega) ?_ _ rfl ?_
               focus ((repeat (first | with_reducible exact HR1.out | with_reducible refine row_alloc ?_ _ | with_reducible refine row_drew ?_)); done)
               focus (change Blk _ _ 3 #[.int .i64 pw]; (repeat (first | ((with_reducible refine Blk.newEq _ _ ?_); focus (simp; done)) | with_reducible refine Blk.alloc ?_ _ | with_reducible refine Blk.drew ?_)); done)
               focus (refine Nat.le_trans hbs (show Sz wq _ from ?_); (repeat (first | with_reducible assumption | with_reducible exact Sz.refl _ | with_reducible refine Sz.alloc ?_ _ | with_reducible refine Sz.drew ?_)); done)
               intro n1 k1 w1 hw hg hat hlt
               have hK1 : KB w.heap.size wq w1 := KB.grown (by (repeat (first | with_reducible assumption | with_reducible exact KB.refl _ _ | with_reducible refine KB.alloc ?_ _ | with_reducible refine KB.drew ?_))) hg (fun j e => (HR1.out.lt j e).1)
               have hZ1 : Sz wq w1 := Sz.grown (by (repeat (first | with_reducible assumption | with_reducible exact Sz.refl _ | with_reducible refine Sz.alloc ?_ _ | with_reducible refine Sz.drew ?_))) hg
               have HP2 := Lib.hid (row_kept (show World.ownsRow _ w.heap.size 3 1 u4 K.length (atV K) from by (repeat (first | with_reducible exact HR2.out | with_reducible refine row_alloc ?_ _ | with_reducible refine row_drew ?_))) hg (fun j e1 e2 => HDJ.out j e2 e1))
               (first
                 | (refine have hQ2 := pastg (t := 3) (cs := #[.int .i64 pa]) (G := wq.heap.size) ?_ hg (fun e => by have := (HR1.out.lt _ e).2; omega); ?_; focus ((repeat (first | ((with_reducible refine Blk.newEq _ _ ?_); focus (simp; done)) | with_reducible refine Blk.alloc ?_ _ | with_reducible refine Blk.drew ?_)); done))
                 | (refine have hQ2 := pastg (t := 3) (cs := #[.int .i64 pa]) (G := wq.heap.size + 1) ?_ hg (fun e => by have := (HR1.out.lt _ e).2; omega); ?_; focus ((repeat (first | ((with_reducible refine Blk.newEq _ _ ?_); focus (simp; done)) | with_reducible refine Blk.alloc ?_ _ | with_reducible refine Blk.drew ?_)); done))
                 | skip)
               have HA1 := Lib.hid (show u3.ownBlock = some n1 ∨ wq.heap.size ≤ n1 from hat.imp id (fun e => by rw [e]; show Sz wq _; (repeat (first | with_reducible assumption | with_reducible exact Sz.refl _ | with_reducible refine Sz.alloc ?_ _ | with_reducible refine Sz.drew ?_))))
               have hlt1 := hlt
               have HW1 := Lib.hid hw
               clear hw hg hat hlt)
            | (refine step_append_lies _ rfl (.tmp 28) (.tmp 36) 27 rfl w.heap.size 3 i0 _ 1 8 Try.underlying27 hi hz0 hz1 hz2 rfl (by decide) u3 K.length (whoV K) rfl ?_ ⟨wq.heap.size + 1, 0, none⟩ 1 1 [.int .i64 pw] rfl rfl (World.news_of_block (cs := #[.int .i64 pw]) (t := 3) (fr := (0, 0)) ?_) (by simp [Value.oneCell']) (by decide) (by unfold maxLen; omega) (by omega) ?_ _ rfl ?_
               focus ((repeat (first | with_reducible exact HR1.out | with_reducible refine row_alloc ?_ _ | with_reducible refine row_drew ?_)); done)
               focus (change Blk _ _ 3 #[.int .i64 pw]; (repeat (first | ((with_reducible refine Blk.newEq _ _ ?_); focus (simp; done)) | with_reducible refine Blk.alloc ?_ _ | with_reducible refine Blk.drew ?_)); done)
               focus (refine Nat.le_trans hbs (show Sz wq _ from ?_); (repeat (first | with_reducible assumption | with_reducible exact Sz.refl _ | with_reducible refine Sz.alloc ?_ _ | with_reducible refine Sz.drew ?_)); done)
               intro n1 k1 w1 hw hg hat hlt
               have hK1 : KB w.heap.size wq w1 := KB.grown (by (repeat (first | with_reducible assumption | with_reducible exact KB.refl _ _ | with_reducible refine KB.alloc ?_ _ | with_reducible refine KB.drew ?_))) hg (fun j e => (HR1.out.lt j e).1)
               have hZ1 : Sz wq w1 := Sz.grown (by (repeat (first | with_reducible assumption | with_reducible exact Sz.refl _ | with_reducible refine Sz.alloc ?_ _ | with_reducible refine Sz.drew ?_))) hg
               have HP2 := Lib.hid (row_kept (show World.ownsRow _ w.heap.size 3 1 u4 K.length (atV K) from by (repeat (first | with_reducible exact HR2.out | with_reducible refine row_alloc ?_ _ | with_reducible refine row_drew ?_))) hg (fun j e1 e2 => HDJ.out j e2 e1))
               (first
                 | (refine have hQ2 := pastg (t := 3) (cs := #[.int .i64 pa]) (G := wq.heap.size) ?_ hg (fun e => by have := (HR1.out.lt _ e).2; omega); ?_; focus ((repeat (first | ((with_reducible refine Blk.newEq _ _ ?_); focus (simp; done)) | with_reducible refine Blk.alloc ?_ _ | with_reducible refine Blk.drew ?_)); done))
                 | (refine have hQ2 := pastg (t := 3) (cs := #[.int .i64 pa]) (G := wq.heap.size + 1) ?_ hg (fun e => by have := (HR1.out.lt _ e).2; omega); ?_; focus ((repeat (first | ((with_reducible refine Blk.newEq _ _ ?_); focus (simp; done)) | with_reducible refine Blk.alloc ?_ _ | with_reducible refine Blk.drew ?_)); done))
                 | skip)
               have HA1 := Lib.hid (show u3.ownBlock = some n1 ∨ wq.heap.size ≤ n1 from hat.imp id (fun e => by rw [e]; show Sz wq _; (repeat (first | with_reducible assumption | with_reducible exact Sz.refl _ | with_reducible refine Sz.alloc ?_ _ | with_reducible refine Sz.drew ?_))))
               have hlt1 := hlt
               have HW1 := Lib.hid hw
               clear hw hg hat hlt)
            | (refine step_append_lies _ rfl (.tmp 38) (.tmp 46) 27 rfl w.heap.size 3 i0 _ 1 8 Try.underlying27 hi hz0 hz1 hz2 rfl (by decide) u4 K.length (atV K) rfl ?_ ⟨wq.heap.size, 0, none⟩ 1 1 [.int .i64 pa] rfl rfl (World.news_of_block (cs := #[.int .i64 pa]) (t := 3) (fr := (0, 0)) ?_) (by simp [Value.oneCell']) (by decide) (by unfold maxLen; omega) (by omega) ?_ _ rfl ?_
               focus ((repeat (first | with_reducible exact HR2.out | with_reducible refine row_alloc ?_ _ | with_reducible refine row_drew ?_)); done)
               focus (change Blk _ _ 3 #[.int .i64 pa]; (repeat (first | ((with_reducible refine Blk.newEq _ _ ?_); focus (simp; done)) | with_reducible refine Blk.alloc ?_ _ | with_reducible refine Blk.drew ?_)); done)
               focus (refine Nat.le_trans hbs (show Sz wq _ from ?_); (repeat (first | with_reducible assumption | with_reducible exact Sz.refl _ | with_reducible refine Sz.alloc ?_ _ | with_reducible refine Sz.drew ?_)); done)
               intro n2 k2 w2 hw hg hat hlt
               have hK2 : KB w.heap.size wq w2 := KB.grown (by (repeat (first | with_reducible assumption | with_reducible exact KB.refl _ _ | with_reducible refine KB.alloc ?_ _ | with_reducible refine KB.drew ?_))) hg (fun j e => (HR2.out.lt j e).1)
               have hZ2 : Sz wq w2 := Sz.grown (by (repeat (first | with_reducible assumption | with_reducible exact Sz.refl _ | with_reducible refine Sz.alloc ?_ _ | with_reducible refine Sz.drew ?_))) hg
               have HP1 := Lib.hid (row_kept (show World.ownsRow _ w.heap.size 3 1 u3 K.length (whoV K) from by (repeat (first | with_reducible exact HR1.out | with_reducible refine row_alloc ?_ _ | with_reducible refine row_drew ?_))) hg (fun j e1 e2 => HDJ.out j e1 e2))
               (first
                 | (refine have hQ1 := pastg (t := 3) (cs := #[.int .i64 pw]) (G := wq.heap.size) ?_ hg (fun e => by have := (HR2.out.lt _ e).2; omega); ?_; focus ((repeat (first | ((with_reducible refine Blk.newEq _ _ ?_); focus (simp; done)) | with_reducible refine Blk.alloc ?_ _ | with_reducible refine Blk.drew ?_)); done))
                 | (refine have hQ1 := pastg (t := 3) (cs := #[.int .i64 pw]) (G := wq.heap.size + 1) ?_ hg (fun e => by have := (HR2.out.lt _ e).2; omega); ?_; focus ((repeat (first | ((with_reducible refine Blk.newEq _ _ ?_); focus (simp; done)) | with_reducible refine Blk.alloc ?_ _ | with_reducible refine Blk.drew ?_)); done))
                 | skip)
               have HA2 := Lib.hid (show u4.ownBlock = some n2 ∨ wq.heap.size ≤ n2 from hat.imp id (fun e => by rw [e]; show Sz wq _; (repeat (first | with_reducible assumption | with_reducible exact Sz.refl _ | with_reducible refine Sz.alloc ?_ _ | with_reducible refine Sz.drew ?_))))
               have hlt2 := hlt
               have HW2 := Lib.hid hw
               clear hw hg hat hlt)
            | (refine step_append_lies _ rfl (.tmp 38) (.tmp 46) 27 rfl w.heap.size 3 i0 _ 1 8 Try.underlying27 hi hz0 hz1 hz2 rfl (by decide) u4 K.length (atV K) rfl ?_ ⟨wq.heap.size + 1, 0, none⟩ 1 1 [.int .i64 pa] rfl rfl (World.news_of_block (cs := #[.int .i64 pa]) (t := 3) (fr := (0, 0)) ?_) (by simp [Value.oneCell']) (by decide) (by unfold maxLen; omega) (by omega) ?_ _ rfl ?_
               focus ((repeat (first | with_reducible exact HR2.out | with_reducible refine row_alloc ?_ _ | with_reducible refine row_drew ?_)); done)
               focus (change Blk _ _ 3 #[.int .i64 pa]; (repeat (first | ((with_reducible refine Blk.newEq _ _ ?_); focus (simp; done)) | with_reducible refine Blk.alloc ?_ _ | with_reducible refine Blk.drew ?_)); done)
               focus (refine Nat.le_trans hbs (show Sz wq _ from ?_); (repeat (first | with_reducible assumption | with_reducible exact Sz.refl _ | with_reducible refine Sz.alloc ?_ _ | with_reducible refine Sz.drew ?_)); done)
               intro n2 k2 w2 hw hg hat hlt
               have hK2 : KB w.heap.size wq w2 := KB.grown (by (repeat (first | with_reducible assumption | with_reducible exact KB.refl _ _ | with_reducible refine KB.alloc ?_ _ | with_reducible refine KB.drew ?_))) hg (fun j e => (HR2.out.lt j e).1)
               have hZ2 : Sz wq w2 := Sz.grown (by (repeat (first | with_reducible assumption | with_reducible exact Sz.refl _ | with_reducible refine Sz.alloc ?_ _ | with_reducible refine Sz.drew ?_))) hg
               have HP1 := Lib.hid (row_kept (show World.ownsRow _ w.heap.size 3 1 u3 K.length (whoV K) from by (repeat (first | with_reducible exact HR1.out | with_reducible refine row_alloc ?_ _ | with_reducible refine row_drew ?_))) hg (fun j e1 e2 => HDJ.out j e1 e2))
               (first
                 | (refine have hQ1 := pastg (t := 3) (cs := #[.int .i64 pw]) (G := wq.heap.size) ?_ hg (fun e => by have := (HR2.out.lt _ e).2; omega); ?_; focus ((repeat (first | ((with_reducible refine Blk.newEq _ _ ?_); focus (simp; done)) | with_reducible refine Blk.alloc ?_ _ | with_reducible refine Blk.drew ?_)); done))
                 | (refine have hQ1 := pastg (t := 3) (cs := #[.int .i64 pw]) (G := wq.heap.size + 1) ?_ hg (fun e => by have := (HR2.out.lt _ e).2; omega); ?_; focus ((repeat (first | ((with_reducible refine Blk.newEq _ _ ?_); focus (simp; done)) | with_reducible refine Blk.alloc ?_ _ | with_reducible refine Blk.drew ?_)); done))
                 | skip)
               have HA2 := Lib.hid (show u4.ownBlock = some n2 ∨ wq.heap.size ≤ n2 from hat.imp id (fun e => by rw [e]; show Sz wq _; (repeat (first | with_reducible assumption | with_reducible exact Sz.refl _ | with_reducible refine Sz.alloc ?_ _ | with_reducible refine Sz.drew ?_))))
               have hlt2 := hlt
               have HW2 := Lib.hid hw
               clear hw hg hat hlt)
            | (refine step_append_lies _ rfl (.tmp 28) (.tmp 36) 27 rfl w.heap.size 3 i0 _ 1 8 Try.underlying27 hi hz0 hz1 hz2 rfl (by decide) u3 K.length (whoV K) rfl ?_ ⟨w2.heap.size, 0, none⟩ 1 1 [.int .i64 pw] rfl rfl (World.news_of_block (cs := #[.int .i64 pw]) (t := 3) (fr := (0, 0)) ?_) (by simp [Value.oneCell']) (by decide) (by unfold maxLen; omega) (by omega) ?_ _ rfl ?_
               focus ((repeat (first | with_reducible exact HP1.out | with_reducible refine row_alloc ?_ _ | with_reducible refine row_drew ?_)); done)
               focus (change Blk _ _ 3 #[.int .i64 pw]; (repeat (first | ((with_reducible refine Blk.newEq _ _ ?_); focus (simp; done)) | with_reducible refine Blk.alloc ?_ _ | with_reducible refine Blk.drew ?_)); done)
               focus (refine Nat.le_trans hbs (show Sz wq _ from ?_); (repeat (first | with_reducible assumption | with_reducible exact Sz.refl _ | with_reducible refine Sz.alloc ?_ _ | with_reducible refine Sz.drew ?_)); done)
               intro n1 k1 w1 hw hg hat hlt
               have hK1 : KB w.heap.size wq w1 := KB.grown (by (repeat (first | with_reducible assumption | with_reducible exact KB.refl _ _ | with_reducible refine KB.alloc ?_ _ | with_reducible refine KB.drew ?_))) hg (fun j e => (HR1.out.lt j e).1)
               have hZ1 : Sz wq w1 := Sz.grown (by (repeat (first | with_reducible assumption | with_reducible exact Sz.refl _ | with_reducible refine Sz.alloc ?_ _ | with_reducible refine Sz.drew ?_))) hg
               have HA1 := Lib.hid (show u3.ownBlock = some n1 ∨ w2.heap.size ≤ n1 from hat.imp id (fun e => by rw [e]; show Sz w2 _; (repeat (first | with_reducible assumption | with_reducible exact Sz.refl _ | with_reducible refine Sz.alloc ?_ _ | with_reducible refine Sz.drew ?_))))
               have HX2 := Lib.hid (row_kept (show World.ownsRow _ w.heap.size 3 1 (.slice (some ⟨n2, 0, none⟩) (K.length + 1) k2) (K.length + 1) (atV K ++ [.int .i64 pa]) from by (repeat (first | with_reducible exact HW2.out | with_reducible refine row_alloc ?_ _ | with_reducible refine row_drew ?_))) hg (fun j e1 e2 => by
                 obtain rfl : n2 = j := Option.some.inj e1
                 rcases HA2.out with e3 | e3
                 · exact HDJ.out _ e2 e3
                 · have := (HR1.out.lt _ e2).2
                   omega))
               have HY1 := Lib.hid hw
               clear hw hg hat hlt)
            | (refine step_append_lies _ rfl (.tmp 28) (.tmp 36) 27 rfl w.heap.size 3 i0 _ 1 8 Try.underlying27 hi hz0 hz1 hz2 rfl (by decide) u3 K.length (whoV K) rfl ?_ ⟨wq.heap.size, 0, none⟩ 1 1 [.int .i64 pw] rfl rfl (World.news_of_block (cs := #[.int .i64 pw]) (t := 3) (fr := (0, 0)) ?_) (by simp [Value.oneCell']) (by decide) (by unfold maxLen; omega) (by omega) ?_ _ rfl ?_
               focus ((repeat (first | with_reducible exact HP1.out | with_reducible refine row_alloc ?_ _ | with_reducible refine row_drew ?_)); done)
               focus (change Blk _ _ 3 #[.int .i64 pw]; (exact hQ1); done)
               focus (refine Nat.le_trans hbs (show Sz wq _ from ?_); (repeat (first | with_reducible assumption | with_reducible exact Sz.refl _ | with_reducible refine Sz.alloc ?_ _ | with_reducible refine Sz.drew ?_)); done)
               intro n1 k1 w1 hw hg hat hlt
               have hK1 : KB w.heap.size wq w1 := KB.grown (by (repeat (first | with_reducible assumption | with_reducible exact KB.refl _ _ | with_reducible refine KB.alloc ?_ _ | with_reducible refine KB.drew ?_))) hg (fun j e => (HR1.out.lt j e).1)
               have hZ1 : Sz wq w1 := Sz.grown (by (repeat (first | with_reducible assumption | with_reducible exact Sz.refl _ | with_reducible refine Sz.alloc ?_ _ | with_reducible refine Sz.drew ?_))) hg
               have HA1 := Lib.hid (show u3.ownBlock = some n1 ∨ w2.heap.size ≤ n1 from hat.imp id (fun e => by rw [e]; show Sz w2 _; (repeat (first | with_reducible assumption | with_reducible exact Sz.refl _ | with_reducible refine Sz.alloc ?_ _ | with_reducible refine Sz.drew ?_))))
               have HX2 := Lib.hid (row_kept (show World.ownsRow _ w.heap.size 3 1 (.slice (some ⟨n2, 0, none⟩) (K.length + 1) k2) (K.length + 1) (atV K ++ [.int .i64 pa]) from by (repeat (first | with_reducible exact HW2.out | with_reducible refine row_alloc ?_ _ | with_reducible refine row_drew ?_))) hg (fun j e1 e2 => by
                 obtain rfl : n2 = j := Option.some.inj e1
                 rcases HA2.out with e3 | e3
                 · exact HDJ.out _ e2 e3
                 · have := (HR1.out.lt _ e2).2
                   omega))
               have HY1 := Lib.hid hw
               clear hw hg hat hlt)
            | (refine step_append_lies _ rfl (.tmp 28) (.tmp 36) 27 rfl w.heap.size 3 i0 _ 1 8 Try.underlying27 hi hz0 hz1 hz2 rfl (by decide) u3 K.length (whoV K) rfl ?_ ⟨wq.heap.size + 1, 0, none⟩ 1 1 [.int .i64 pw] rfl rfl (World.news_of_block (cs := #[.int .i64 pw]) (t := 3) (fr := (0, 0)) ?_) (by simp [Value.oneCell']) (by decide) (by unfold maxLen; omega) (by omega) ?_ _ rfl ?_
               focus ((repeat (first | with_reducible exact HP1.out | with_reducible refine row_alloc ?_ _ | with_reducible refine row_drew ?_)); done)
               focus (change Blk _ _ 3 #[.int .i64 pw]; (exact hQ1); done)
               focus (refine Nat.le_trans hbs (show Sz wq _ from ?_); (repeat (first | with_reducible assumption | with_reducible exact Sz.refl _ | with_reducible refine Sz.alloc ?_ _ | with_reducible refine Sz.drew ?_)); done)
               intro n1 k1 w1 hw hg hat hlt
               have hK1 : KB w.heap.size wq w1 := KB.grown (by (repeat (first | with_reducible assumption | with_reducible exact KB.refl _ _ | with_reducible refine KB.alloc ?_ _ | with_reducible refine KB.drew ?_))) hg (fun j e => (HR1.out.lt j e).1)
               have hZ1 : Sz wq w1 := Sz.grown (by (repeat (first | with_reducible assumption | with_reducible exact Sz.refl _ | with_reducible refine Sz.alloc ?_ _ | with_reducible refine Sz.drew ?_))) hg
               have HA1 := Lib.hid (show u3.ownBlock = some n1 ∨ w2.heap.size ≤ n1 from hat.imp id (fun e => by rw [e]; show Sz w2 _; (repeat (first | with_reducible assumption | with_reducible exact Sz.refl _ | with_reducible refine Sz.alloc ?_ _ | with_reducible refine Sz.drew ?_))))
               have HX2 := Lib.hid (row_kept (show World.ownsRow _ w.heap.size 3 1 (.slice (some ⟨n2, 0, none⟩) (K.length + 1) k2) (K.length + 1) (atV K ++ [.int .i64 pa]) from by (repeat (first | with_reducible exact HW2.out | with_reducible refine row_alloc ?_ _ | with_reducible refine row_drew ?_))) hg (fun j e1 e2 => by
                 obtain rfl : n2 = j := Option.some.inj e1
                 rcases HA2.out with e3 | e3
                 · exact HDJ.out _ e2 e3
                 · have := (HR1.out.lt _ e2).2
                   omega))
               have HY1 := Lib.hid hw
               clear hw hg hat hlt)
            | (refine step_append_lies _ rfl (.tmp 38) (.tmp 46) 27 rfl w.heap.size 3 i0 _ 1 8 Try.underlying27 hi hz0 hz1 hz2 rfl (by decide) u4 K.length (atV K) rfl ?_ ⟨w1.heap.size, 0, none⟩ 1 1 [.int .i64 pa] rfl rfl (World.news_of_block (cs := #[.int .i64 pa]) (t := 3) (fr := (0, 0)) ?_) (by simp [Value.oneCell']) (by decide) (by unfold maxLen; omega) (by omega) ?_ _ rfl ?_
               focus ((repeat (first | with_reducible exact HP2.out | with_reducible refine row_alloc ?_ _ | with_reducible refine row_drew ?_)); done)
               focus (change Blk _ _ 3 #[.int .i64 pa]; (repeat (first | ((with_reducible refine Blk.newEq _ _ ?_); focus (simp; done)) | with_reducible refine Blk.alloc ?_ _ | with_reducible refine Blk.drew ?_)); done)
               focus (refine Nat.le_trans hbs (show Sz wq _ from ?_); (repeat (first | with_reducible assumption | with_reducible exact Sz.refl _ | with_reducible refine Sz.alloc ?_ _ | with_reducible refine Sz.drew ?_)); done)
               intro n2 k2 w2 hw hg hat hlt
               have hK2 : KB w.heap.size wq w2 := KB.grown (by (repeat (first | with_reducible assumption | with_reducible exact KB.refl _ _ | with_reducible refine KB.alloc ?_ _ | with_reducible refine KB.drew ?_))) hg (fun j e => (HR2.out.lt j e).1)
               have hZ2 : Sz wq w2 := Sz.grown (by (repeat (first | with_reducible assumption | with_reducible exact Sz.refl _ | with_reducible refine Sz.alloc ?_ _ | with_reducible refine Sz.drew ?_))) hg
               have HA2 := Lib.hid (show u4.ownBlock = some n2 ∨ w1.heap.size ≤ n2 from hat.imp id (fun e => by rw [e]; show Sz w1 _; (repeat (first | with_reducible assumption | with_reducible exact Sz.refl _ | with_reducible refine Sz.alloc ?_ _ | with_reducible refine Sz.drew ?_))))
               have HX1 := Lib.hid (row_kept (show World.ownsRow _ w.heap.size 3 1 (.slice (some ⟨n1, 0, none⟩) (K.length + 1) k1) (K.length + 1) (whoV K ++ [.int .i64 pw]) from by (repeat (first | with_reducible exact HW1.out | with_reducible refine row_alloc ?_ _ | with_reducible refine row_drew ?_))) hg (fun j e1 e2 => by
                 obtain rfl : n1 = j := Option.some.inj e1
                 rcases HA1.out with e3 | e3
                 · exact HDJ.out _ e3 e2
                 · have := (HR2.out.lt _ e2).2
                   omega))
               have HY2 := Lib.hid hw
               clear hw hg hat hlt)
            | (refine step_append_lies _ rfl (.tmp 38) (.tmp 46) 27 rfl w.heap.size 3 i0 _ 1 8 Try.underlying27 hi hz0 hz1 hz2 rfl (by decide) u4 K.length (atV K) rfl ?_ ⟨wq.heap.size, 0, none⟩ 1 1 [.int .i64 pa] rfl rfl (World.news_of_block (cs := #[.int .i64 pa]) (t := 3) (fr := (0, 0)) ?_) (by simp [Value.oneCell']) (by decide) (by unfold maxLen; omega) (by omega) ?_ _ rfl ?_
               focus ((repeat (first | with_reducible exact HP2.out | with_reducible refine row_alloc ?_ _ | with_reducible refine row_drew ?_)); done)
               focus (change Blk _ _ 3 #[.int .i64 pa]; (exact hQ2); done)
               focus (refine Nat.le_trans hbs (show Sz wq _ from ?_); (repeat (first | with_reducible assumption | with_reducible exact Sz.refl _ | with_reducible refine Sz.alloc ?_ _ | with_reducible refine Sz.drew ?_)); done)
               intro n2 k2 w2 hw hg hat hlt
               have hK2 : KB w.heap.size wq w2 := KB.grown (by (repeat (first | with_reducible assumption | with_reducible exact KB.refl _ _ | with_reducible refine KB.alloc ?_ _ | with_reducible refine KB.drew ?_))) hg (fun j e => (HR2.out.lt j e).1)
               have hZ2 : Sz wq w2 := Sz.grown (by (repeat (first | with_reducible assumption | with_reducible exact Sz.refl _ | with_reducible refine Sz.alloc ?_ _ | with_reducible refine Sz.drew ?_))) hg
               have HA2 := Lib.hid (show u4.ownBlock = some n2 ∨ w1.heap.size ≤ n2 from hat.imp id (fun e => by rw [e]; show Sz w1 _; (repeat (first | with_reducible assumption | with_reducible exact Sz.refl _ | with_reducible refine Sz.alloc ?_ _ | with_reducible refine Sz.drew ?_))))
               have HX1 := Lib.hid (row_kept (show World.ownsRow _ w.heap.size 3 1 (.slice (some ⟨n1, 0, none⟩) (K.length + 1) k1) (K.length + 1) (whoV K ++ [.int .i64 pw]) from by (repeat (first | with_reducible exact HW1.out | with_reducible refine row_alloc ?_ _ | with_reducible refine row_drew ?_))) hg (fun j e1 e2 => by
                 obtain rfl : n1 = j := Option.some.inj e1
                 rcases HA1.out with e3 | e3
                 · exact HDJ.out _ e3 e2
                 · have := (HR2.out.lt _ e2).2
                   omega))
               have HY2 := Lib.hid hw
               clear hw hg hat hlt)
            | (refine step_append_lies _ rfl (.tmp 38) (.tmp 46) 27 rfl w.heap.size 3 i0 _ 1 8 Try.underlying27 hi hz0 hz1 hz2 rfl (by decide) u4 K.length (atV K) rfl ?_ ⟨wq.heap.size + 1, 0, none⟩ 1 1 [.int .i64 pa] rfl rfl (World.news_of_block (cs := #[.int .i64 pa]) (t := 3) (fr := (0, 0)) ?_) (by simp [Value.oneCell']) (by decide) (by unfold maxLen; omega) (by omega) ?_ _ rfl ?_
               focus ((repeat (first | with_reducible exact HP2.out | with_reducible refine row_alloc ?_ _ | with_reducible refine row_drew ?_)); done)
               focus (change Blk _ _ 3 #[.int .i64 pa]; (exact hQ2); done)
               focus (refine Nat.le_trans hbs (show Sz wq _ from ?_); (repeat (first | with_reducible assumption | with_reducible exact Sz.refl _ | with_reducible refine Sz.alloc ?_ _ | with_reducible refine Sz.drew ?_)); done)
               intro n2 k2 w2 hw hg hat hlt
               have hK2 : KB w.heap.size wq w2 := KB.grown (by (repeat (first | with_reducible assumption | with_reducible exact KB.refl _ _ | with_reducible refine KB.alloc ?_ _ | with_reducible refine KB.drew ?_))) hg (fun j e => (HR2.out.lt j e).1)
               have hZ2 : Sz wq w2 := Sz.grown (by (repeat (first | with_reducible assumption | with_reducible exact Sz.refl _ | with_reducible refine Sz.alloc ?_ _ | with_reducible refine Sz.drew ?_))) hg
               have HA2 := Lib.hid (show u4.ownBlock = some n2 ∨ w1.heap.size ≤ n2 from hat.imp id (fun e => by rw [e]; show Sz w1 _; (repeat (first | with_reducible assumption | with_reducible exact Sz.refl _ | with_reducible refine Sz.alloc ?_ _ | with_reducible refine Sz.drew ?_))))
               have HX1 := Lib.hid (row_kept (show World.ownsRow _ w.heap.size 3 1 (.slice (some ⟨n1, 0, none⟩) (K.length + 1) k1) (K.length + 1) (whoV K ++ [.int .i64 pw]) from by (repeat (first | with_reducible exact HW1.out | with_reducible refine row_alloc ?_ _ | with_reducible refine row_drew ?_))) hg (fun j e1 e2 => by
                 obtain rfl : n1 = j := Option.some.inj e1
                 rcases HA1.out with e3 | e3
                 · exact HDJ.out _ e3 e2
                 · have := (HR2.out.lt _ e2).2
                   omega))
               have HY2 := Lib.hid hw
               clear hw hg hat hlt))
          all_goals (
            (first
              | (have HZ1 := HX1
                 have HZ2 := HY2
                 have HKF := Lib.hid (HKB.out.trans hK2)
                 have HDN := Lib.hid (show n1 = n2 → False from fun e => by
                   subst e
                   rcases HA2.out with e2 | e2
                   · rcases HA1.out with e1 | e1
                     · exact HDJ.out _ e1 e2
                     · have := (HR2.out.lt _ e2).2
                       omega
                   · omega))
              | (have HZ1 := HY1
                 have HZ2 := HX2
                 have HKF := Lib.hid (HKB.out.trans hK1)
                 have HDN := Lib.hid (show n1 = n2 → False from fun e => by
                   subst e
                   rcases HA1.out with e2 | e2
                   · rcases HA2.out with e1 | e1
                     · exact HDJ.out _ e2 e1
                     · have := (HR1.out.lt _ e2).2
                       omega
                   · omega)))
            clear HS SS hk0
            go_wp2_with fail
            go_meet
            exact ⟨n1, k1, n2, k2, rfl, rfl, HZ1.out, HZ2.out, HDN.out, HKF.out⟩)
        case rest =>
          obtain ⟨n1, k1, n2, k2, rfl, rfl, hz1, hz2, hdn, hkf⟩ := hcut
          have HZ1 := Lib.hid hz1
          have HZ2 := Lib.hid hz2
          have HDN := Lib.hid hdn
          have HKF := Lib.hid hkf
          clear hz1 hz2 hdn hkf HS SS hk0 HR1 HR2 HDJ HKB hbs
          go_wp2_with fail
          have HZ1' := Lib.hid (show (_ : World).ownsRow w.heap.size 3 1 (.slice (some ⟨n1, 0, none⟩) (K.length + 1) k1) (K.length + 1) (whoV (putAt (pw, pa) K K.length)) from by rw [putAt_end, whoV_snoc]; exact HZ1.out)
          have HZ2' := Lib.hid (show (_ : World).ownsRow w.heap.size 3 1 (.slice (some ⟨n2, 0, none⟩) (K.length + 1) k2) (K.length + 1) (atV (putAt (pw, pa) K K.length)) from by rw [putAt_end, atV_snoc]; exact HZ2.out)
          go_loopw [6] (fun kk wi => ∃ k : Nat, k ≤ K.length ∧ kk = .int .i64 (k : Int) ∧ wi.ownsRow w.heap.size 3 1 (.slice (some ⟨n1, 0, none⟩) (K.length + 1) k1) (K.length + 1) (whoV (putAt (pw, pa) K k)) ∧ wi.ownsRow w.heap.size 3 1 (.slice (some ⟨n2, 0, none⟩) (K.length + 1) k2) (K.length + 1) (atV (putAt (pw, pa) K k)) ∧ KB w.heap.size w wi ∧ posP (pw, pa) K K.length = posP (pw, pa) K k) (fun kk _ => (intOf kk).toNat)
          case atStart => exact ⟨K.length, Nat.le_refl _, by first | rfl | (congr 1; omega) | (congr 1; simp; omega), HZ1'.out, HZ2'.out, HKF.out, rfl⟩
          case round =>
            obtain ⟨k, hk, rfl, hT1, hT2, hT3, hps⟩ := hrel
            have HT1 := Lib.hid hT1
            have HT2 := Lib.hid hT2
            have HT3 := Lib.hid hT3
            have HPS := Lib.hid hps
            clear hT1 hT2 hT3 hps
            cases k with
            | zero =>
              have hk0I : ¬ ((0 : Nat) : Int) > 0 := by omega
              go_wp2
              go_quiet (fail)
              have HF1 := Lib.hid (row_keep (w2 := wr.drewN nq) HT1.out (fun _ _ => rfl))
              have HF2 := Lib.hid (row_keep (w2 := wr.drewN nq) HT2.out (fun _ _ => rfl))
              have HF3 := Lib.hid (show KB w.heap.size w (wr.drewN nq) from ⟨HT3.out.1, below_drewN HT3.out.2 nq⟩)
              have HE2 := Lib.hid (show rAll now (L.take (q + 1)) = putAt (pw, pa) K 0 by rw [HE.out]; unfold rIns; rw [HPS.out]; rfl)
              have HPL := Lib.hid (putAt_len (pw, pa) K 0 (by omega))
              go_wp2
              go_roundw
              case rel => exact ⟨q + 1, by omega, by go_num, by rw [HE2.out, HPL.out]; exact HF1.out, by rw [HE2.out, HPL.out]; exact HF2.out, fun j e1 e2 => HDN.out ((Option.some.inj e1).trans (Option.some.inj e2).symm), HF3.out⟩
              case measure => simp [intOf]; omega
            | succ k =>
              obtain ⟨⟨rw, ra⟩, hr⟩ : ∃ r, K[k]? = some r := ⟨K[k], List.getElem?_eq_getElem _⟩
              have y1 := row_at HT1.out (whoV_get (by rw [putAt_left _ K (k + 1) k hk (by omega)]; exact hr))
              have y2 := row_at HT1.out (whoV_get (putAt_at (pw, pa) K (k + 1) hk))
              have y3 := row_at HT2.out (atV_get (by rw [putAt_left _ K (k + 1) k hk (by omega)]; exact hr))
              have y4 := row_at HT2.out (atV_get (putAt_at (pw, pa) K (k + 1) hk))
              obtain ⟨y1c, y1f⟩ := y1
              obtain ⟨y2c, y2f⟩ := y2
              obtain ⟨y3c, y3f⟩ := y3
              obtain ⟨y4c, y4f⟩ := y4
              simp only at y1c y2c y3c y4c
              have HSW := Lib.hid (putAt_swap (pw, pa) (rw, ra) K k hk hr)
              have HPE := Lib.hid (show posP (pw, pa) K (k + 1) = if ahdB (pw, pa) (rw, ra) = true then posP (pw, pa) K k else k + 1 by conv => lhs; unfold posP; rw [hr])
              unfold ahdB at HPE
              simp only at HPE
              have hkI : ((k + 1 : Nat) : Int) > 0 := by omega
              have hkc : ((k + 1 : Nat) : Int) = (k : Int) + 1 := by omega
              have i1 : IntKind.i64.wrap ((k : Int) + 1 - 1) = (k : Int) := by rw [show (k : Int) + 1 - 1 = (k : Int) by omega]; exact IntWalk.i64_in _ (by omega)
              have i6 : IntKind.i64.wrap (k : Int) = (k : Int) := IntWalk.i64_in _ (by omega)
              have i2 : (k : Int) + 1 < (K.length : Int) + 1 := by omega
              have i3 : ((k : Int) + 1).toNat = k + 1 := by omega
              clear hr
              by_cases c1 : pa < ra
              · have HP1 := Lib.hid (show posP (pw, pa) K (k + 1) = posP (pw, pa) K k by rw [HPE.out, if_pos (by simp; omega)])
                have hne : ¬ n1 = n2 := HDN.out
                have hne' : ¬ n2 = n1 := fun e => HDN.out e.symm
                go_wp2
                go_quiet (fail)
                go_wp2_with fail
                go_region
                go_wp2_with fail
                go_region
                have HSR := Lib.hid (swap_rows (W := wr.drewN (nq + 1)) (row_keep HT1.out (fun _ _ => rfl)) (row_keep HT2.out (fun _ _ => rfl)) HDN.out HSW.out (⟨HT3.out.1, below_drewN HT3.out.2 (nq + 1)⟩ : KB w.heap.size w (wr.drewN (nq + 1))))
                clear y1c y1f y2c y2f y3c y3f y4c y4f i1 i2 i3 i6
                go_wp2
                go_roundw
                case rel => exact ⟨k, by omega, by first | rfl | (congr 1; omega) | go_num, HSR.out.1, HSR.out.2.1, HSR.out.2.2, HPS.out.trans HP1.out⟩
                case measure => simp [intOf] <;> omega
              · by_cases c2 : ra = pa
                · have c2b : (ra == pa) = true := by simpa using c2
                  have c1b : ¬ ra > pa := by omega
                  by_cases c3 : pw < rw
                  · have HP1 := Lib.hid (show posP (pw, pa) K (k + 1) = posP (pw, pa) K k by rw [HPE.out, if_pos (by simp; omega)])
                    clear c1 c1b c2b
                    have c2' := c2.symm
                    clear c2
                    subst c2'
                    have hne : ¬ n1 = n2 := HDN.out
                    have hne' : ¬ n2 = n1 := fun e => HDN.out e.symm
                    go_wp2
                    go_quiet (fail)
                    go_wp2_with fail
                    go_region
                    go_wp2_with fail
                    go_region
                    have HSR := Lib.hid (swap_rows (W := wr.drewN (nq + 1)) (row_keep HT1.out (fun _ _ => rfl)) (row_keep HT2.out (fun _ _ => rfl)) HDN.out HSW.out (⟨HT3.out.1, below_drewN HT3.out.2 (nq + 1)⟩ : KB w.heap.size w (wr.drewN (nq + 1))))
                    clear y1c y1f y2c y2f y3c y3f y4c y4f i1 i2 i3 i6
                    go_wp2
                    go_roundw
                    case rel => exact ⟨k, by omega, by first | rfl | (congr 1; omega) | go_num, HSR.out.1, HSR.out.2.1, HSR.out.2.2, HPS.out.trans HP1.out⟩
                    case measure => simp [intOf] <;> omega
                  · have c3b : ¬ rw > pw := by omega
                    have HPX := Lib.hid (show posP (pw, pa) K (k + 1) = k + 1 by rw [HPE.out, if_neg (by simp; omega)])
                    clear c1 c1b c2b
                    have c2' := c2.symm
                    clear c2
                    subst c2'
                    have i4 : (0 : Int) ≤ (k : Int) := by omega
                    have i5 : (k : Int) < (K.length : Int) + 1 := by omega
                    go_wp2
                    go_quiet (fail)
                    have HF1 := Lib.hid (row_keep (w2 := wr.drewN nq) HT1.out (fun _ _ => rfl))
                    have HF2 := Lib.hid (row_keep (w2 := wr.drewN nq) HT2.out (fun _ _ => rfl))
                    have HF3 := Lib.hid (show KB w.heap.size w (wr.drewN nq) from ⟨HT3.out.1, below_drewN HT3.out.2 nq⟩)
                    have HE2 := Lib.hid (show rAll now (L.take (q + 1)) = putAt (pw, pa) K (k + 1) by rw [HE.out]; unfold rIns; rw [HPS.out, HPX.out])
                    have HPL := Lib.hid (putAt_len (pw, pa) K (k + 1) (by omega))
                    clear y1c y1f y2c y2f y3c y3f y4c y4f i1 i2 i3 i6
                    go_wp2
                    go_roundw
                    case rel => exact ⟨q + 1, by omega, by go_num, by rw [HE2.out, HPL.out]; exact HF1.out, by rw [HE2.out, HPL.out]; exact HF2.out, fun j e1 e2 => HDN.out ((Option.some.inj e1).trans (Option.some.inj e2).symm), HF3.out⟩
                    case measure => simp [intOf]; omega
                · have c4 : ra < pa := by omega
                  have HPX := Lib.hid (show posP (pw, pa) K (k + 1) = k + 1 by rw [HPE.out, if_neg (by simp; omega)])
                  clear c2 c1
                  have i4 : (0 : Int) ≤ (k : Int) := by omega
                  have i5 : (k : Int) < (K.length : Int) + 1 := by omega
                  have HC4 := Lib.hid c4
                  have i7 : (0 : Int) ≤ (k : Int) + 1 := by omega
                  clear c4
                  go_wp2
                  have c4a : decide (ra > pa) = false := decide_eq_false (by have := HC4.out; omega)
                  have c4b : (ra == pa) = false := by have := HC4.out; simp; omega
                  go_quiet (fail)
                  have HF1 := Lib.hid (row_keep (w2 := wr.drewN nq) HT1.out (fun _ _ => rfl))
                  have HF2 := Lib.hid (row_keep (w2 := wr.drewN nq) HT2.out (fun _ _ => rfl))
                  have HF3 := Lib.hid (show KB w.heap.size w (wr.drewN nq) from ⟨HT3.out.1, below_drewN HT3.out.2 nq⟩)
                  have HE2 := Lib.hid (show rAll now (L.take (q + 1)) = putAt (pw, pa) K (k + 1) by rw [HE.out]; unfold rIns; rw [HPS.out, HPX.out])
                  have HPL := Lib.hid (putAt_len (pw, pa) K (k + 1) (by omega))
                  clear y1c y1f y2c y2f y3c y3f y4c y4f i1 i2 i3 i6
                  go_wp2
                  go_roundw
                  case rel => exact ⟨q + 1, by omega, by go_num, by rw [HE2.out, HPL.out]; exact HF1.out, by rw [HE2.out, HPL.out]; exact HF2.out, fun j e1 e2 => HDN.out ((Option.some.inj e1).trans (Option.some.inj e2).symm), HF3.out⟩
                  case measure => simp [intOf]; omega
    · obtain rfl : q = L.length := by omega
      rw [List.take_length] at HR1 HR2
      obtain ⟨A3, cap3, g3, rfl, o3, b3, d3, e3⟩ := row_own HR1.out w.heap.size (Nat.le_refl _)
      have HO := Lib.hid o3
      clear o3 d3 e3
      go_wp2
      go_ret
      exact ⟨A3, cap3, g3, rfl, HO.out, HKB.out.2⟩
end Go.Proofs.Ytchjgojagmhpeaa
