/- The ring of numbers gone through: All and Back as iterators. -/
import Derived.Test.YtglifomkhcikdaaPla
import Derived.Test.YtglifomkhcikdaaRin
import Derived.RangeFuncNested
import Derived.RangeFuncBound
import Derived.RangeFuncCalls
import Derived.RangeFuncLeaves
import Derived.Shelf.Abstract
import Derived.Shelf.RegionOpen
import Derived.Stop.RegionWithIn
import Derived.OwnWalkIn
import Derived.TacticsInMore
import Derived.LoopNIn
import Derived.LoopIn
namespace Go.Proofs.Ytglifomkhcikdaa
open Go.RowKit
open Go.Lib
open Go.Shelf
attribute [local go_sem] Oper.semAt_some
set_option linter.unusedVariables false
set_option linter.unusedSimpArgs false
set_option maxRecDepth 100000
def Kb (l : List Nat) (W W' : World) : Prop := ∀ b ∈ l, W'.heap[b]? = W.heap[b]?
theorem Kb.trans {l : List Nat} {A B C : World} (h : Kb l A B) (k : Kb l B C) : Kb l A C := fun b hb => (k b hb).trans (h b hb)
theorem Kb.refl (l : List Nat) (A : World) : Kb l A A := fun _ _ => rfl
theorem len_same {w : World} {R g : Nat} {most first : Int} {items : List Value} {n : Nat} (h : Rng 46 2 w R g most first items) (hn : items.length = n) : Calls Try.prog 10 #[.pointer (some ⟨R, 0, none⟩)] w fun e w' => e = .returned (.int .i64 (n : Int)) ∧ w' = w := by
  obtain ⟨A, cap, hb, ho, hT, hg⟩ := h
  rw [hn] at hb
  have c1 := hb.cell 1
  simp only [List.getElem?_toArray, List.getElem?_cons_zero, List.getElem?_cons_succ] at c1
  clear hb ho hT
  go_enter Try.func10, Try.ntmps10
  go_wp2
  go_ret
  exact ⟨rfl, rfl⟩
/-- What the ring holds, from the first on. -/
structure Rx (w : World) (R g n F : Nat) (most : Int) (items : List Value) (xs : List Int) : Prop where
  rng : Rng 46 2 w R g most (F : Int) items
  len : items.length = n
  xln : xs.length = n
  lt : 0 < n → F < n
  at' : ∀ k x, xs[k]? = some x → items[(F + k) % n]? = some (.int .i64 x)
theorem Rx.keep {w w' : World} {R g n F : Nat} {most : Int} {items : List Value} {xs : List Int} (h : Rx w R g n F most items xs) (h1 : w'.heap[R]? = w.heap[R]?) (h2 : w'.heap[g]? = w.heap[g]?) : Rx w' R g n F most items xs :=
  ⟨h.rng.keep h1 h2, h.len, h.xln, h.lt, h.at'⟩
abbrev Pr := Int × Int
def enP (x : Pr) : Array Value := #[.int .i64 x.1, .int .i64 x.2]
def enI (x : Int) : Array Value := #[.int .i64 x]
def upto (xs : List Int) (k : Nat) : List Pr := (xs.take k).zipIdx.map fun p => ((p.2 : Int), p.1)
def enumL (xs : List Int) : List Pr := upto xs xs.length
theorem upto_len (xs : List Int) (k : Nat) (h : k ≤ xs.length) : (upto xs k).length = k := by unfold upto; simp; omega
theorem upto_succ {xs : List Int} {k : Nat} {x : Int} (h : xs[k]? = some x) : upto xs (k + 1) = upto xs k ++ [((k : Int), x)] := by
  have hl := (List.getElem?_eq_some_iff.1 h).1
  unfold upto
  rw [List.take_add_one, h, List.zipIdx_append, List.map_append]
  simp
  omega
theorem upto_pre (xs : List Int) (k : Nat) : upto xs k <+: enumL xs := by
  unfold enumL upto
  rw [List.take_length]
  refine List.IsPrefix.map _ ?_
  refine ⟨(xs.drop k).zipIdx (0 + (xs.take k).length), ?_⟩
  rw [← List.zipIdx_append, List.take_append_drop]
def YB (J Jx : List Pr → World → Prop) (l : List Nat) (pre : List Pr) (x : Pr) (W1 : World) (e : Ending) (W' : World) : Prop := ∃ b, e = .returned (.bool b) ∧ ((b = true ∧ J (pre ++ [x]) W' ∧ Kb l W1 W') ∨ (b = false ∧ Jx (pre ++ [x]) W'))
set_option maxHeartbeats 8000000 in
theorem all_stops (m R g Bm n F : Nat) (most : Int) (items : List Value) (xs : List Int) (w : World) (hR : Rx w R g n F most items xs) (hn : n ≤ 100000) (hm : Blk w Bm 24 #[.pointer (some ⟨R, 0, none⟩)]) :
    SeqStopsK Fence.wide m Try.prog 20 #[.pointer (some ⟨Bm, 0, none⟩)] enP (Kb [R, g, Bm]) (fun ys => ys = enumL xs) (fun pre => pre <+: enumL xs) n w := fun l J Jx W hW hJ hJx hY h0 => by
  have hRW : Rx W R g n F most items xs := hR.keep (hW.block R hR.rng.lt) (hW.block g (by obtain ⟨_, _, _, _, _, hg⟩ := hR.rng; exact hg))
  have hmW : Blk W Bm 24 #[.pointer (some ⟨R, 0, none⟩)] := (hW.block Bm hm.lt).trans hm
  have hY2 : ∀ pre x W1, J pre W1 → pre.length < n → YieldAt Fence.wide (m - 1) Try.prog l (enP x) W1 (YB J Jx [R, g, Bm] pre x W1) := fun pre x W1 hj hl => by
    obtain ⟨fn, tmps, assign, body, hy, hR⟩ := hY pre x W1 hj hl
    exact ⟨fn, tmps, assign, body, hy, hR.mono (fun e W' h => h.elim (fun ⟨he, h1, h2⟩ => ⟨true, he, .inl ⟨rfl, h1, h2⟩⟩) (fun ⟨he, h1⟩ => ⟨false, he, .inr ⟨rfl, h1⟩⟩))⟩
  have HY := Lib.hid hY2
  have HR := Lib.hid hRW
  have HM := Lib.hid hmW
  have HJ := Lib.hid hJ
  have hd : Fence.wide.depth = none := rfl
  have hall : ∀ f, Fence.wide.fn f := fun _ => trivial
  have hro : Fence.wide.round = none := rfl
  have hxn : xs.length = n := hR.xln
  have HXN := Lib.hid hxn
  have m0 := hmW.cell 0
  simp only [List.getElem?_toArray, List.getElem?_cons_zero] at m0
  have hnI : (n : Int) ≤ 100000 := by omega
  clear hY hY2 hRW hmW hR hm hJ hJx hxn
  refine callsIn_of_wp Try.func20 rfl (hall _) ?_ hro
  simp only [Try.ntmps20, List.size_toArray, List.length_cons, List.length_nil, Nat.reduceAdd, Nat.reduceSub, Array.replicate_succ, Array.replicate_zero, List.push_toArray, List.append_toArray, List.nil_append, List.cons_append]
  gi_wp2_with (gi_at_call 10; refine (callsIn_wide.2 (len_same HR.out.rng HR.out.len)).mono ?_; rintro _ wz ⟨rfl, hw0⟩; replace hw0 := hw0.symm; subst hw0)
  clear m0
  gi_loopw [6] (fun i wr => ∃ k : Nat, k ≤ n ∧ i = .int .i64 (k : Int) ∧ J (upto xs k) wr ∧ Kb [R, g, Bm] W wr) (fun i _ => n - (intOf i).toNat)
  case atStart => exact ⟨0, Nat.zero_le _, rfl, h0, Kb.refl _ _⟩
  case round =>
    obtain ⟨k, hk, rfl, hj, hkb⟩ := hrel
    have HRr := Lib.hid (HR.out.keep (hkb R (by simp)) (hkb g (by simp)))
    have HMr := Lib.hid (show Blk wr Bm 24 #[.pointer (some ⟨R, 0, none⟩)] from (hkb Bm (by simp)).trans HM.out)
    have HKB := Lib.hid hkb
    have HJr := Lib.hid hj
    clear hj hkb
    by_cases hlt : k < n
    · obtain ⟨x, hx⟩ : ∃ x, xs[k]? = some x := ⟨xs[k]'(by rw [HXN.out]; exact hlt), List.getElem?_eq_getElem _⟩
      obtain ⟨A, cap, hb, ho, hT, hg⟩ := HRr.out.rng
      obtain ⟨rfl, hcap, _, cF, fF⟩ := ho.cell (HRr.out.at' k x hx)
      rw [HRr.out.len] at hb
      have c1 : wr.drew.cell? ⟨R, 1, none⟩ = some (.slice (some ⟨g, 0, none⟩) n cap) := hb.cell 1
      have m1 : wr.drew.cell? ⟨Bm, 0, none⟩ = some (.pointer (some ⟨R, 0, none⟩)) := HMr.out.cell 0
      have hF := HRr.out.lt (by omega)
      have HX := Lib.hid hx
      have hmd : (F + k) % n < n := Nat.mod_lt _ (by omega)
      have CP := Lib.hid (fun W (h : Rng 46 2 W R g most F items) => place_any (i := k) h HRr.out.len (by omega) (by omega) hF (by omega))
      obtain ⟨M, hM⟩ : ∃ M, (F + k) % n = M := ⟨_, rfl⟩
      rw [hM] at cF CP hmd
      have hMI : (M : Int) < (n : Int) := by omega
      have hkI : (k : Int) < (n : Int) := by omega
      clear hM hb ho hT hg hx fF hcap
      gi_wp2
      gi_region_with (first
        | (gi_at_call 18
           refine (callsIn_wide.2 (CP.out _ ?_)).mono ?_
           · exact HRr.out.rng.keep rfl rfl
           rintro _ w2 ⟨rfl, nq2, rfl⟩
           obtain ⟨fn, tmps, assign, body, hy, hRR⟩ := HY.out (upto xs k) ((k : Int), x) (wr.drewN (1 + nq2)) (HJ.out _ _ _ none HJr.out ⟨rfl, rfl, rfl, Nat.le_refl _, fun _ _ _ => rfl⟩ (fun r e => by cases e)) (by rw [upto_len _ _ (by rw [HXN.out]; omega)]; exact hlt)
           simp only [enP] at hy
           have c1 : (wr.drewN (1 + nq2)).cell? ⟨R, 1, none⟩ = some (.slice (some ⟨g, 0, none⟩) n cap) := c1
           have m1 : (wr.drewN (1 + nq2)).cell? ⟨Bm, 0, none⟩ = some (.pointer (some ⟨R, 0, none⟩)) := m1
           have cF : (wr.drewN (1 + nq2)).cell? ⟨g, M, none⟩ = some (.int .i64 x) := cF
           have HRR := Lib.hid hRR
           clear hRR
           go_simp)
        | (refine HRR.out.mono ?_
           rintro e W3 ⟨bb, rfl, hh⟩
           have HH := Lib.hid hh
           clear hh hy))
      all_goals (
        rcases HH.out with ⟨rfl, hj3, hk3⟩ | ⟨rfl, hx3⟩
        · have HJ3 := Lib.hid hj3
          have HK3 := Lib.hid (HKB.out.trans (show Kb [R, g, Bm] wr W3 from hk3))
          clear hj3 hk3
          gi_wp2
          go_roundw
          case rel => exact ⟨k + 1, by omega, by go_num, by rw [upto_succ HX.out]; exact HJ3.out, HK3.out⟩
          case measure => simp [intOf]; omega
        · have HX3 := Lib.hid hx3
          clear hx3
          gi_wp2
          refine bodyPost_ret (results_none rfl _ _ _) rfl ?_
          exact ⟨⟨_, rfl⟩, .inr ⟨_, by rw [← upto_succ HX.out]; exact upto_pre _ _, HX3.out⟩⟩)
    · obtain rfl : k = n := by omega
      gi_wp2
      go_end0
      exact ⟨⟨_, rfl⟩, .inl ⟨upto xs k, by unfold enumL; rw [HXN.out], HJr.out⟩⟩
theorem rev_snoc {xs : List Int} {n q : Nat} {x : Int} (hn : xs.length = n) (hx : xs[q]? = some x) (hq : q + 1 ≤ n) : xs.reverse.take (n - q) = xs.reverse.take (n - (q + 1)) ++ [x] := by
  rw [show n - q = (n - (q + 1)) + 1 by omega, List.take_add_one, List.getElem?_reverse (by omega), show xs.length - 1 - (n - (q + 1)) = q by omega, hx]
  rfl
def YC (J Jx : List Int → World → Prop) (l : List Nat) (pre : List Int) (x : Int) (W1 : World) (e : Ending) (W' : World) : Prop := ∃ b, e = .returned (.bool b) ∧ ((b = true ∧ J (pre ++ [x]) W' ∧ Kb l W1 W') ∨ (b = false ∧ Jx (pre ++ [x]) W'))
set_option maxHeartbeats 8000000 in
theorem back_stops (m R g Bm n F : Nat) (most : Int) (items : List Value) (xs : List Int) (w : World) (hR : Rx w R g n F most items xs) (hn : n ≤ 100000) (hm : Blk w Bm 24 #[.pointer (some ⟨R, 0, none⟩)]) :
    SeqStopsK Fence.wide m Try.prog 21 #[.pointer (some ⟨Bm, 0, none⟩)] enI (Kb [R, g, Bm]) (fun ys => ys = xs.reverse) (fun pre => pre <+: xs.reverse) n w := fun l J Jx W hW hJ hJx hY h0 => by
  have hRW : Rx W R g n F most items xs := hR.keep (hW.block R hR.rng.lt) (hW.block g (by obtain ⟨_, _, _, _, _, hg⟩ := hR.rng; exact hg))
  have hmW : Blk W Bm 24 #[.pointer (some ⟨R, 0, none⟩)] := (hW.block Bm hm.lt).trans hm
  have hY2 : ∀ pre x W1, J pre W1 → pre.length < n → YieldAt Fence.wide (m - 1) Try.prog l (enI x) W1 (YC J Jx [R, g, Bm] pre x W1) := fun pre x W1 hj hl => by
    obtain ⟨fn, tmps, assign, body, hy, hR⟩ := hY pre x W1 hj hl
    exact ⟨fn, tmps, assign, body, hy, hR.mono (fun e W' h => h.elim (fun ⟨he, h1, h2⟩ => ⟨true, he, .inl ⟨rfl, h1, h2⟩⟩) (fun ⟨he, h1⟩ => ⟨false, he, .inr ⟨rfl, h1⟩⟩))⟩
  have HY := Lib.hid hY2
  have HR := Lib.hid hRW
  have HM := Lib.hid hmW
  have HJ := Lib.hid hJ
  have hd : Fence.wide.depth = none := rfl
  have hall : ∀ f, Fence.wide.fn f := fun _ => trivial
  have hro : Fence.wide.round = none := rfl
  have hxn : xs.length = n := hR.xln
  have HXN := Lib.hid hxn
  have m0 := hmW.cell 0
  simp only [List.getElem?_toArray, List.getElem?_cons_zero] at m0
  have hnI : (n : Int) ≤ 100000 := by omega
  clear hY hY2 hRW hmW hR hm hJ hJx hxn
  refine callsIn_of_wp Try.func21 rfl (hall _) ?_ hro
  simp only [Try.ntmps21, List.size_toArray, List.length_cons, List.length_nil, Nat.reduceAdd, Nat.reduceSub, Array.replicate_succ, Array.replicate_zero, List.push_toArray, List.append_toArray, List.nil_append, List.cons_append]
  gi_wp2_with (gi_at_call 10; refine (callsIn_wide.2 (len_same HR.out.rng HR.out.len)).mono ?_; rintro _ wz ⟨rfl, hw0⟩; replace hw0 := hw0.symm; subst hw0)
  clear m0
  gi_loopw [3] (fun i wr => ∃ (k : Nat) (z : Int), k ≤ n ∧ z = (k : Int) - 1 ∧ i = .int .i64 z ∧ J (xs.reverse.take (n - k)) wr ∧ Kb [R, g, Bm] W wr) (fun i _ => (intOf i + 1).toNat)
  case atStart => exact ⟨n, _, Nat.le_refl _, rfl, rfl, by rw [Nat.sub_self]; exact h0, Kb.refl _ _⟩
  case round =>
    obtain ⟨k, z, hk, hz, rfl, hj, hkb⟩ := hrel
    have HRr := Lib.hid (HR.out.keep (hkb R (by simp)) (hkb g (by simp)))
    have HMr := Lib.hid (show Blk wr Bm 24 #[.pointer (some ⟨R, 0, none⟩)] from (hkb Bm (by simp)).trans HM.out)
    have HKB := Lib.hid hkb
    have HJr := Lib.hid hj
    clear hj hkb
    by_cases hlt : 0 < k
    · obtain ⟨q, rfl⟩ : ∃ q, k = q + 1 := ⟨k - 1, by omega⟩
      obtain rfl : z = (q : Int) := by omega
      clear hz
      obtain ⟨x, hx⟩ : ∃ x, xs[q]? = some x := ⟨xs[q]'(by rw [HXN.out]; omega), List.getElem?_eq_getElem _⟩
      obtain ⟨A, cap, hb, ho, hT, hg⟩ := HRr.out.rng
      obtain ⟨rfl, hcap, _, cF, fF⟩ := ho.cell (HRr.out.at' q x hx)
      rw [HRr.out.len] at hb
      have c1 : wr.drew.cell? ⟨R, 1, none⟩ = some (.slice (some ⟨g, 0, none⟩) n cap) := hb.cell 1
      have m1 : wr.drew.cell? ⟨Bm, 0, none⟩ = some (.pointer (some ⟨R, 0, none⟩)) := HMr.out.cell 0
      have hF := HRr.out.lt (by omega)
      have HX := Lib.hid hx
      have hmd : (F + q) % n < n := Nat.mod_lt _ (by omega)
      have CP := Lib.hid (fun W (h : Rng 46 2 W R g most F items) => place_any (i := q) h HRr.out.len (by omega) (by omega) hF (by omega))
      obtain ⟨M, hM⟩ : ∃ M, (F + q) % n = M := ⟨_, rfl⟩
      rw [hM] at cF CP hmd
      have hMI : (M : Int) < (n : Int) := by omega
      have hkI : (q : Int) < (n : Int) := by omega
      have HTK := Lib.hid (show xs.reverse.take (n - q) = xs.reverse.take (n - (q + 1)) ++ [x] from rev_snoc HXN.out hx hk)
      clear hM hb ho hT hg hx fF hcap
      gi_wp2
      gi_region_with (first
        | (gi_at_call 18
           refine (callsIn_wide.2 (CP.out _ ?_)).mono ?_
           · exact HRr.out.rng.keep rfl rfl
           rintro _ w2 ⟨rfl, nq2, rfl⟩
           obtain ⟨fn, tmps, assign, body, hy, hRR⟩ := HY.out (xs.reverse.take (n - (q + 1))) x (wr.drewN (1 + nq2)) (HJ.out _ _ _ none HJr.out ⟨rfl, rfl, rfl, Nat.le_refl _, fun _ _ _ => rfl⟩ (fun r e => by cases e)) (by rw [List.length_take]; omega)
           simp only [enI] at hy
           have c1 : (wr.drewN (1 + nq2)).cell? ⟨R, 1, none⟩ = some (.slice (some ⟨g, 0, none⟩) n cap) := c1
           have m1 : (wr.drewN (1 + nq2)).cell? ⟨Bm, 0, none⟩ = some (.pointer (some ⟨R, 0, none⟩)) := m1
           have cF : (wr.drewN (1 + nq2)).cell? ⟨g, M, none⟩ = some (.int .i64 x) := cF
           have HRR := Lib.hid hRR
           clear hRR
           go_simp)
        | (refine HRR.out.mono ?_
           rintro e W3 ⟨bb, rfl, hh⟩
           have HH := Lib.hid hh
           clear hh hy))
      all_goals (
        rcases HH.out with ⟨rfl, hj3, hk3⟩ | ⟨rfl, hx3⟩
        · have HJ3 := Lib.hid hj3
          have HK3 := Lib.hid (HKB.out.trans (show Kb [R, g, Bm] wr W3 from hk3))
          clear hj3 hk3
          gi_wp2
          go_roundw
          case rel => exact ⟨q, _, by omega, rfl, rfl, by rw [HTK.out]; exact HJ3.out, HK3.out⟩
          case measure => simp [intOf]
        · have HX3 := Lib.hid hx3
          clear hx3
          gi_wp2
          refine bodyPost_ret (results_none rfl _ _ _) rfl ?_
          exact ⟨⟨_, rfl⟩, .inr ⟨_, by rw [← HTK.out]; exact List.take_prefix _ _, HX3.out⟩⟩)
    · obtain rfl : k = 0 := by omega
      obtain rfl : z = -1 := by omega
      clear hz
      gi_wp2
      go_end0
      exact ⟨⟨_, rfl⟩, .inl ⟨_, by rw [Nat.sub_zero]; exact List.take_of_length_le (by rw [List.length_reverse, HXN.out]; exact Nat.le_refl _), HJr.out⟩⟩
theorem all_fn (R : Nat) (w : World) : Calls Try.prog 16 #[.pointer (some ⟨R, 0, none⟩)] w fun e w' => e = .returned (.func (.func 20) #[] #[.pointer (some ⟨w.heap.size, 0, none⟩)]) ∧ w' = w.alloc (.cells #[.pointer (some ⟨R, 0, none⟩)] 24) := by
  go_enter Try.func16, Try.ntmps16
  go_wp2
  go_ret
  exact ⟨rfl, rfl⟩
theorem back_fn (R : Nat) (w : World) : Calls Try.prog 17 #[.pointer (some ⟨R, 0, none⟩)] w fun e w' => e = .returned (.func (.func 21) #[] #[.pointer (some ⟨w.heap.size, 0, none⟩)]) ∧ w' = w.alloc (.cells #[.pointer (some ⟨R, 0, none⟩)] 24) := by
  go_enter Try.func17, Try.ntmps17
  go_wp2
  go_ret
  exact ⟨rfl, rfl⟩
end Go.Proofs.Ytglifomkhcikdaa
