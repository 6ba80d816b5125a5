/- Trees in memory (values: Int): put. -/
import Derived.Test.YthcjbljkokflgaaZag
import Derived.RangeFuncNested
import Derived.RangeFuncBound
import Derived.RangeFuncCalls
import Derived.RangeFuncLeaves
import Derived.Shelf.Abstract
import Derived.Shelf.RegionOpen
import Derived.Stop.RegionWithIn
import Derived.OwnWalkIn
import Derived.TacticsInMore
import Derived.LoopNIn
import Derived.LoopIn
import Derived.Test.YthcjbljkokflgaaZaa
import Derived.Test.YthcjbljkokflgaaProg
import Derived.WalkKit
import Derived.Deep.Upon
import Derived.Lib.Hide
import Derived.KernelRfl
import Derived.OwnWalk
import Derived.BigQuiet
import Derived.RegionTactic
import Derived.Deep.QuietTactic
import Derived.Deep.RegionWith
import Derived.Laws.Rows
import Derived.Deep.RegionHeld3
import Derived.Deep.DrawnRows
import Derived.Laws.Cover1
set_option linter.unnecessarySimpa false
/- The ring of changes gone through from its end: Back as an iterator. -/
namespace Go.Proofs.Ythcjbljkokflgaa
open Go.RowKit
open Go.Lib
open Go.Shelf
attribute [local go_sem] Oper.semAt_some
set_option linter.unusedVariables false
set_option linter.unusedSimpArgs false
set_option maxRecDepth 100000
def Kb (l : List Nat) (W W' : World) : Prop := ∀ b ∈ l, W'.heap[b]? = W.heap[b]?
theorem Kb.trans {l : List Nat} {A B C : World} (h : Kb l A B) (k : Kb l B C) : Kb l A C := fun b hb => (k b hb).trans (h b hb)
theorem Kb.refl (l : List Nat) (A : World) : Kb l A A := fun _ _ => rfl
theorem ring_len {w : World} {R n : Nat} {most : Int} {F : Nat} {A : Option Addr} {cap : Nat} (hb : Blk w R 108 #[.int .i64 most, .slice A n cap, .int .i64 (F : Int)]) : Calls Try.prog 79 #[.pointer (some ⟨R, 0, none⟩)] w fun e w' => e = .returned (.int .i64 (n : Int)) ∧ w' = w := by
  have c1 := hb.cell 1
  simp only [List.getElem?_toArray, List.getElem?_cons_zero, List.getElem?_cons_succ] at c1
  clear hb
  go_enter Try.func79, Try.ntmps79
  go_wp2
  go_ret
  exact ⟨rfl, rfl⟩
/-- What the ring holds, from the first on. -/
def ord (F : Nat) (l : List Chg) : List Chg := l.drop F ++ l.take F
theorem ord_len (F : Nat) (l : List Chg) : (ord F l).length = l.length := by unfold ord; simp; omega
theorem ord_at {F k : Nat} {l : List Chg} {x : Chg} (hF : F < l.length) (h : (ord F l)[k]? = some x) : l[(F + k) % l.length]? = some x := by
  have hk : k < l.length := by have := (List.getElem?_eq_some_iff.1 h).1; rw [ord_len] at this; exact this
  unfold ord at h
  by_cases h1 : F + k < l.length
  · rw [List.getElem?_append_left (by rw [List.length_drop]; omega), List.getElem?_drop] at h
    rw [Nat.mod_eq_of_lt h1]; exact h
  · rw [List.getElem?_append_right (by rw [List.length_drop]; omega), List.length_drop, List.getElem?_take, if_pos (by omega)] at h
    rw [Nat.mod_eq_sub_mod (by omega), Nat.mod_eq_of_lt (by omega), show F + k - l.length = k - (l.length - F) by omega]
    exact h
structure Rb (w : World) (R g n F : Nat) (most : Int) (A : Option Addr) (cap : Nat) (xs : List Chg) : Prop where
  box : Blk w R 108 #[.int .i64 most, .slice A n cap, .int .i64 (F : Int)]
  xln : xs.length = n
  lt : 0 < n → F < n
  glt : g < w.heap.size
  at' : ∀ k x, xs[k]? = some x → A = some ⟨g, 0, none⟩ ∧ n ≤ cap ∧ w.cell? ⟨g, (F + k) % n * 2, none⟩ = some (.int .i64 x.1) ∧ w.cell? ⟨g, (F + k) % n * 2 + 1, none⟩ = some (.string x.2)
theorem Rb.keep {w w' : World} {R g n F : Nat} {most : Int} {A : Option Addr} {cap : Nat} {xs : List Chg} (h : Rb w R g n F most A cap xs) (h1 : w'.heap[R]? = w.heap[R]?) (h2 : w'.heap[g]? = w.heap[g]?) : Rb w' R g n F most A cap xs :=
  ⟨h1.trans h.box, h.xln, h.lt, (by
    have e := Array.getElem?_eq_getElem h.glt
    rw [← h2] at e
    exact (Array.getElem?_eq_some_iff.1 e).1), fun k x hx => by
    obtain ⟨a1, a2, a3, a4⟩ := h.at' k x hx
    exact ⟨a1, a2, (World.cell?_of_block (w := w) h2).trans a3, (World.cell?_of_block (w := w) h2).trans a4⟩⟩
theorem rb_of {w : World} {B R : Nat} {most : Int} {F : Nat} {l : List Chg} (h : Rg w B R most F l) (hF : 0 < l.length → F < l.length) : ∃ g A cap, Rb w R g l.length F most A cap (ord F l) ∧ (g = R ∨ B ≤ g) := by
  obtain ⟨v, h1, ⟨h0, ⟨rfl, hz⟩ | ⟨g, cap, cur, rfl, e2, e3, e4, e5, e6, e7⟩⟩, h3⟩ := h
  · refine ⟨R, none, 0, ⟨?_, ord_len _ _, hF, h1.lt, fun k x hx => ?_⟩, .inl rfl⟩
    · rw [hz]; exact h1
    · have := (List.getElem?_eq_some_iff.1 hx).1; rw [ord_len] at this; omega
  · have hb : Blk w g 72 cur := e3
    refine ⟨g, some ⟨g, 0, none⟩, cap, ⟨h1, ord_len _ _, hF, hb.lt, fun k x hx => ?_⟩, .inr e2⟩
    have hk := (List.getElem?_eq_some_iff.1 hx).1
    rw [ord_len] at hk
    have hx2 := ord_at (hF (by omega)) hx
    obtain ⟨M, hM⟩ : ∃ M, (F + k) % l.length = M := ⟨_, rfl⟩
    rw [hM] at hx2 ⊢
    have hm := (List.getElem?_eq_some_iff.1 hx2).1
    have key : ∀ i, i < 2 → w.cell? ⟨g, M * 2 + i, none⟩ = (chV x)[i]? := fun i hi => by
      rw [hb.cell, ← chC_get l M x hx2 i hi, ← e7, List.getElem?_take, if_pos (by omega), Array.getElem?_toList]
    exact ⟨rfl, e4, key 0 (by omega), key 1 (by omega)⟩
def enC (x : Chg) : Array Value := #[.agg #[.int .i64 x.1, .string x.2]]
theorem rev_snoc {xs : List Chg} {n q : Nat} {x : Chg} (hn : xs.length = n) (hx : xs[q]? = some x) (hq : q + 1 ≤ n) : xs.reverse.take (n - q) = xs.reverse.take (n - (q + 1)) ++ [x] := by
  rw [show n - q = (n - (q + 1)) + 1 by omega, List.take_add_one, List.getElem?_reverse (by omega), show xs.length - 1 - (n - (q + 1)) = q by omega, hx]
  rfl
def YC (J Jx : List Chg → World → Prop) (l : List Nat) (pre : List Chg) (x : Chg) (W1 : World) (e : Ending) (W' : World) : Prop := ∃ b, e = .returned (.bool b) ∧ ((b = true ∧ J (pre ++ [x]) W' ∧ Kb l W1 W') ∨ (b = false ∧ Jx (pre ++ [x]) W'))
set_option maxHeartbeats 8000000 in
theorem back_stops (m R g Bm n F : Nat) (most : Int) (A : Option Addr) (cap : Nat) (xs : List Chg) (w : World) (hR : Rb w R g n F most A cap xs) (hn : n ≤ 1000000) (hm : Blk w Bm 69 #[.pointer (some ⟨R, 0, none⟩)]) :
    SeqStopsK Fence.wide m Try.prog 78 #[.pointer (some ⟨Bm, 0, none⟩)] enC (Kb [R, g, Bm]) (fun ys => ys = xs.reverse) (fun pre => pre <+: xs.reverse) n w := fun l J Jx W hW hJ hJx hY h0 => by
  have hRW : Rb W R g n F most A cap xs := hR.keep (hW.block R hR.box.lt) (hW.block g hR.glt)
  have hmW : Blk W Bm 69 #[.pointer (some ⟨R, 0, none⟩)] := (hW.block Bm hm.lt).trans hm
  have hY2 : ∀ pre x W1, J pre W1 → pre.length < n → YieldAt Fence.wide (m - 1) Try.prog l (enC x) W1 (YC J Jx [R, g, Bm] pre x W1) := fun pre x W1 hj hl => by
    obtain ⟨fn, tmps, assign, body, hy, hR⟩ := hY pre x W1 hj hl
    exact ⟨fn, tmps, assign, body, hy, hR.mono (fun e W' h => h.elim (fun ⟨he, h1, h2⟩ => ⟨true, he, .inl ⟨rfl, h1, h2⟩⟩) (fun ⟨he, h1⟩ => ⟨false, he, .inr ⟨rfl, h1⟩⟩))⟩
  have HY := Lib.hid hY2
  have HR := Lib.hid hRW
  have HM := Lib.hid hmW
  have HJ := Lib.hid hJ
  have hd : Fence.wide.depth = none := rfl
  have hall : ∀ f, Fence.wide.fn f := fun _ => trivial
  have hro : Fence.wide.round = none := rfl
  have hxn : xs.length = n := hR.xln
  have HXN := Lib.hid hxn
  have m0 := hmW.cell 0
  simp only [List.getElem?_toArray, List.getElem?_cons_zero] at m0
  have hnI : (n : Int) ≤ 1000000 := by omega
  clear hY hY2 hRW hmW hR hm hJ hJx hxn
  refine callsIn_of_wp Try.func78 rfl (hall _) ?_ hro
  simp only [Try.ntmps78, List.size_toArray, List.length_cons, List.length_nil, Nat.reduceAdd, Nat.reduceSub, Array.replicate_succ, Array.replicate_zero, List.push_toArray, List.append_toArray, List.nil_append, List.cons_append]
  gi_wp2_with (gi_at_call 79; refine (callsIn_wide.2 (ring_len HR.out.box)).mono ?_; rintro _ wz ⟨rfl, hw0⟩; replace hw0 := hw0.symm; subst hw0)
  clear m0
  gi_loopw [3] (fun i wr => ∃ (k : Nat) (z : Int), k ≤ n ∧ z = (k : Int) - 1 ∧ i = .int .i64 z ∧ J (xs.reverse.take (n - k)) wr ∧ Kb [R, g, Bm] W wr) (fun i _ => (intOf i + 1).toNat)
  case atStart => exact ⟨n, _, Nat.le_refl _, rfl, rfl, by rw [Nat.sub_self]; exact h0, Kb.refl _ _⟩
  case round =>
    obtain ⟨k, z, hk, hz, rfl, hj, hkb⟩ := hrel
    have HRr := Lib.hid (HR.out.keep (hkb R (by simp)) (hkb g (by simp)))
    have HMr := Lib.hid (show Blk wr Bm 69 #[.pointer (some ⟨R, 0, none⟩)] from (hkb Bm (by simp)).trans HM.out)
    have HKB := Lib.hid hkb
    have HJr := Lib.hid hj
    clear hj hkb
    by_cases hlt : 0 < k
    · obtain ⟨q, rfl⟩ : ∃ q, k = q + 1 := ⟨k - 1, by omega⟩
      obtain rfl : z = (q : Int) := by omega
      clear hz
      obtain ⟨x, hx⟩ : ∃ x, xs[q]? = some x := ⟨xs[q]'(by rw [HXN.out]; omega), List.getElem?_eq_getElem _⟩
      obtain ⟨rfl, hcap, cF, cG⟩ := HRr.out.at' q x hx
      have hb := HRr.out.box
      have c1 : wr.drew.cell? ⟨R, 1, none⟩ = some (.slice (some ⟨g, 0, none⟩) n cap) := hb.cell 1
      have m1 : wr.drew.cell? ⟨Bm, 0, none⟩ = some (.pointer (some ⟨R, 0, none⟩)) := HMr.out.cell 0
      have hF := HRr.out.lt (by omega)
      have HX := Lib.hid hx
      have hmd : (F + q) % n < n := Nat.mod_lt _ (by omega)
      have CP := Lib.hid (fun W (h : Blk W R 108 #[.int .i64 most, .slice (some ⟨g, 0, none⟩) n cap, .int .i64 (F : Int)]) => rg_place (i := q) h (by omega) (by omega) hF (by omega))
      obtain ⟨M, hM⟩ : ∃ M, (F + q) % n = M := ⟨_, rfl⟩
      rw [hM] at cF cG CP hmd
      have hMI : (M : Int) < (n : Int) := by omega
      have hkI : (q : Int) < (n : Int) := by omega
      have HTK := Lib.hid (show xs.reverse.take (n - q) = xs.reverse.take (n - (q + 1)) ++ [x] from rev_snoc HXN.out hx hk)
      clear hM hb hx hcap
      gi_wp2
      gi_region_with (first
        | (gi_at_call 60
           refine (callsIn_wide.2 (CP.out _ ?_)).mono ?_
           · exact HRr.out.box
           rintro _ w2 ⟨rfl, nq2, rfl⟩
           obtain ⟨fn, tmps, assign, body, hy, hRR⟩ := HY.out (xs.reverse.take (n - (q + 1))) x (wr.drewN (1 + nq2)) (HJ.out _ _ _ none HJr.out ⟨rfl, rfl, rfl, Nat.le_refl _, fun _ _ _ => rfl⟩ (fun r e => by cases e)) (by rw [List.length_take]; omega)
           simp only [enC] at hy
           have c1 : (wr.drewN (1 + nq2)).cell? ⟨R, 1, none⟩ = some (.slice (some ⟨g, 0, none⟩) n cap) := c1
           have m1 : (wr.drewN (1 + nq2)).cell? ⟨Bm, 0, none⟩ = some (.pointer (some ⟨R, 0, none⟩)) := m1
           have cF : (wr.drewN (1 + nq2)).cell? ⟨g, M * 2, none⟩ = some (.int .i64 x.1) := cF
           have cG : (wr.drewN (1 + nq2)).cell? ⟨g, M * 2 + 1, none⟩ = some (.string x.2) := cG
           have HRR := Lib.hid hRR
           clear hRR
           go_simp)
        | (refine HRR.out.mono ?_
           rintro e W3 ⟨bb, rfl, hh⟩
           have HH := Lib.hid hh
           clear hh hy))
      all_goals (
        rcases HH.out with ⟨rfl, hj3, hk3⟩ | ⟨rfl, hx3⟩
        · have HJ3 := Lib.hid hj3
          have HK3 := Lib.hid (HKB.out.trans (show Kb [R, g, Bm] wr W3 from hk3))
          clear hj3 hk3
          gi_wp2
          go_roundw
          case rel => exact ⟨q, _, by omega, rfl, rfl, by rw [HTK.out]; exact HJ3.out, HK3.out⟩
          case measure => simp [intOf]
        · have HX3 := Lib.hid hx3
          clear hx3
          gi_wp2
          refine bodyPost_ret (results_none rfl _ _ _) rfl ?_
          exact ⟨⟨_, rfl⟩, .inr ⟨_, by rw [← HTK.out]; exact List.take_prefix _ _, HX3.out⟩⟩)
    · obtain rfl : k = 0 := by omega
      obtain rfl : z = -1 := by omega
      clear hz
      gi_wp2
      go_end0
      exact ⟨⟨_, rfl⟩, .inl ⟨_, by rw [Nat.sub_zero]; exact List.take_of_length_le (by rw [List.length_reverse, HXN.out]; exact Nat.le_refl _), HJr.out⟩⟩
theorem back_fn (R : Nat) (w : World) : Calls Try.prog 65 #[.pointer (some ⟨R, 0, none⟩)] w fun e w' => e = .returned (.func (.func 78) #[] #[.pointer (some ⟨w.heap.size, 0, none⟩)]) ∧ w' = w.alloc (.cells #[.pointer (some ⟨R, 0, none⟩)] 69) := by
  go_enter Try.func65, Try.ntmps65
  go_wp2
  go_ret
  exact ⟨rfl, rfl⟩
end Go.Proofs.Ythcjbljkokflgaa
/- Trees in memory (values: Int): what stands where; size, join. -/
namespace Go.Proofs.Ythcjbljkokflgaa.OI
open Go.RowKit
open Go.Lib
set_option linter.unusedVariables false
set_option linter.unusedSimpArgs false
set_option maxRecDepth 100000
abbrev T := Tr (Int)
def ncs (k : ByteArray) (v : Int) (s : Int) (pl pr : Option Addr) : Array Value := #[.string k, .int .i64 v, .int .i64 s, .pointer pl, .pointer pr]
def IsT (w : World) : T → Option Addr → Prop
  | .nil, p => p = none
  | .node k v l r, p => ∃ b pl pr, p = some ⟨b, 0, none⟩ ∧ Blk w b 138 (ncs k v ((l.size + 1 + r.size : Nat) : Int) pl pr) ∧ IsT w l pl ∧ IsT w r pr
/-- Blocks of nodes are as they were. -/
def KeepN (w w' : World) : Prop := ∀ b cs, Blk w b 138 cs → Blk w' b 138 cs
section
variable {w w' w2 : World} {p : Option Addr}
theorem KeepN.refl (w : World) : KeepN w w := fun _ _ h => h
theorem KeepN.trans (h : KeepN w w') (k : KeepN w' w2) : KeepN w w2 := fun b cs x => k b cs (h b cs x)
theorem KeepN.drew (w : World) : KeepN w w.drew := fun _ _ h => h
theorem KeepN.drew2 (w : World) : KeepN w w.drew.drew := fun _ _ h => h
theorem KeepN.of (h : Below w.heap.size w w') : KeepN w w' := fun b cs x => (h.block b x.lt).trans x
/-- A store into a block of another type. -/
theorem KeepN.set {g : Nat} {t : TypeId} {cs : Array Value} (h : Blk w g t cs) (ht : t ≠ 138) (i : Nat) (u : Value) : KeepN w (w.setCell ⟨g, i, none⟩ u) := fun b cs2 x => x.far (p := ⟨g, i, none⟩) (fun e => by
  have e : b = g := e
  subst e
  unfold Blk at h x
  rw [h] at x
  cases x
  exact ht rfl) u
theorem IsT.keep : ∀ {t : T} {p : Option Addr}, IsT w t p → KeepN w w' → IsT w' t p
  | .nil, p, h, _ => h
  | .node k v l r, p, ⟨b, pl, pr, h0, h1, h2, h3⟩, hk => ⟨b, pl, pr, h0, hk _ _ h1, IsT.keep h2 hk, IsT.keep h3 hk⟩
theorem IsT.below {t : T} (h : IsT w t p) (hb : Below w.heap.size w w') : IsT w' t p := h.keep (KeepN.of hb)
end
theorem size_any {w : World} {t : T} {p : Option Addr} (h : IsT w t p) : Calls Try.prog 81 #[.pointer p] w fun e w' => e = .returned (.int .i64 (t.size : Int)) ∧ w' = w := by
  cases t with
  | nil =>
    obtain rfl : p = none := h
    go_enter Try.func81, Try.ntmps81
    go_wp2
    go_ret
    exact ⟨rfl, rfl⟩
  | node k v l r =>
    obtain ⟨b, pl, pr, rfl, hb, _, _⟩ := h
    have c2 := hb.cell 2
    have hcs : (ncs k v ((l.size + 1 + r.size : Nat) : Int) pl pr)[2]? = some (.int .i64 ((l.size + 1 + r.size : Nat) : Int)) := rfl
    rw [hcs] at c2
    show Calls Try.prog 81 _ w fun e w' => e = .returned (.int .i64 ((l.size + 1 + r.size : Nat) : Int)) ∧ w' = w
    obtain ⟨n, hn⟩ : ∃ n : Nat, l.size + 1 + r.size = n := ⟨_, rfl⟩
    rw [hn] at c2 ⊢
    clear hb hcs hn
    go_enter Try.func81, Try.ntmps81
    go_wp2
    go_ret
    exact ⟨rfl, rfl⟩
/-- A node's key and value stand at p. -/
def Nd (w : World) (b : Nat) (k : ByteArray) (v : Int) : Prop := ∃ s x y, Blk w b 138 #[.string k, .int .i64 v, s, x, y]
theorem Nd.keep {w w' : World} {b : Nat} {k : ByteArray} {v : Int} (h : Nd w b k v) (hk : KeepN w w') : Nd w' b k v := by
  obtain ⟨s, x, y, h⟩ := h
  exact ⟨s, x, y, hk _ _ h⟩
set_option maxHeartbeats 4000000 in
theorem join_any {w : World} {l r : T} {pl pr : Option Addr} {b : Nat} {k : ByteArray} {v : Int} (hl : IsT w l pl) (hn : Nd w b k v) (hr : IsT w r pr) (hs : l.size + r.size ≤ 1000000) :
    Calls Try.prog 94 #[.pointer pl, .pointer (some ⟨b, 0, none⟩), .pointer pr] w fun e w' => ∃ p, e = .returned (.pointer p) ∧ IsT w' (.node k v l r) p ∧ Below w.heap.size w w' := by
  have HS1 := Lib.hid (size_any (hl.keep (KeepN.drew w)))
  have HS2 := Lib.hid (size_any (hr.keep (KeepN.drew w)))
  obtain ⟨s, x, y, hb⟩ := hn
  have c0 := hb.cell 0
  have c1 := hb.cell 1
  have HL := Lib.hid hl
  have HR := Lib.hid hr
  obtain ⟨m, hm⟩ : ∃ m, l.size = m := ⟨_, rfl⟩
  obtain ⟨n, hn⟩ : ∃ n, r.size = n := ⟨_, rfl⟩
  have HM := Lib.hid hm
  have HN := Lib.hid hn
  rw [hm, hn] at hs
  rw [hm] at HS1
  rw [hn] at HS2
  have i1 : IntKind.i64.wrap ((m : Int) + 1) = (m : Int) + 1 := IntWalk.i64_in _ (by omega)
  have i2 : IntKind.i64.wrap ((m : Int) + 1 + (n : Int)) = (m : Int) + 1 + (n : Int) := IntWalk.i64_in _ (by omega)
  clear hl hr hm hn
  go_enter Try.func94, Try.ntmps94
  go_wp2_with fail
  have c0d : w.drew.cell? ⟨b, 0, none⟩ = some (.string k) := c0
  have c1d : w.drew.cell? ⟨b, 1, none⟩ = some (.int .i64 v) := (hb.drew).cell 1
  go_region_held3 (fun w' => w'.cell? ⟨b, 0, none⟩ = some (.string k) ∧ w'.cell? ⟨b, 1, none⟩ = some (.int .i64 v)) (first | exact ⟨c0d, c1d⟩ | exact ⟨((hb.alloc _).drew).cell 0, ((hb.alloc _).drew).cell 1⟩) (first
    | (go_at_call 81
       (with_reducible refine HS1.out.mono ?_)
       clear HS1
       rintro _ wz ⟨rfl, hw0⟩
       replace hw0 := hw0.symm
       subst hw0)
    | (go_at_call 81
       (with_reducible refine HS2.out.mono ?_)
       clear HS2
       rintro _ wz ⟨rfl, hw0⟩
       replace hw0 := hw0.symm
       subst hw0)
    | fail)
  all_goals (
    go_wp2
    go_ret
    have hsz : ((l.size + 1 + r.size : Nat) : Int) = (m : Int) + 1 + (n : Int) := by rw [HM.out, HN.out]; omega
    refine ⟨_, rfl, ⟨w.heap.size, pl, pr, rfl, ?_, HL.out.keep ?_, HR.out.keep ?_⟩, ?_⟩
    · rw [hsz]
      exact (Blk.new w 138 _).drew
    · exact KeepN.of (((Below.refl _ w).alloc (Nat.le_refl _) _).drew)
    · exact KeepN.of (((Below.refl _ w).alloc (Nat.le_refl _) _).drew)
    · exact ((Below.refl _ w).alloc (Nat.le_refl _) _).drew)
end Go.Proofs.Ythcjbljkokflgaa.OI
/- Trees in memory (values: Int): turnLeft. -/
namespace Go.Proofs.Ythcjbljkokflgaa.OI
open Go.RowKit
open Go.Lib
set_option linter.unusedVariables false
set_option linter.unusedSimpArgs false
set_option maxRecDepth 100000
set_option maxHeartbeats 8000000 in
theorem turnL_any {w : World} {l r : T} {pl pr : Option Addr} {b : Nat} {k : ByteArray} {v : Int} (hl : IsT w l pl) (hn : Nd w b k v) (hr : IsT w r pr) (hs : l.size + r.size ≤ 100000) (h2 : 2 ≤ r.size) :
    Calls Try.prog 95 #[.pointer pl, .pointer (some ⟨b, 0, none⟩), .pointer pr] w fun e w' => ∃ p, e = .returned (.pointer p) ∧ IsT w' (Tr.turnL l k v r) p ∧ Below w.heap.size w w' := by
  cases r with
  | nil => exact absurd h2 (by show ¬ 2 ≤ 0; omega)
  | node rk rv rl rr =>
    have HL := Lib.hid hl
    have HN := Lib.hid hn
    obtain ⟨rb, prl, prr, rfl, hB, hrl, hrr⟩ := hr
    have cI : w.cell? ⟨rb, 3, none⟩ = some (.pointer prl) := hB.cell 3
    have cO : w.cell? ⟨rb, 4, none⟩ = some (.pointer prr) := hB.cell 4
    have HS1 := Lib.hid (size_any (hrl.keep (KeepN.drew w)))
    have HS2 := Lib.hid (size_any (hrr.keep (KeepN.drew w)))
    have HI := Lib.hid hrl
    have HO := Lib.hid hrr
    have HB := Lib.hid hB
    obtain ⟨m, hm⟩ : ∃ m, rl.size = m := ⟨_, rfl⟩
    obtain ⟨n, hn2⟩ : ∃ n, rr.size = n := ⟨_, rfl⟩
    have HM := Lib.hid hm
    have HNN := Lib.hid hn2
    have hs' : l.size + (m + 1 + n) ≤ 100000 := by rw [← hm, ← hn2]; exact hs
    have h2' : 2 ≤ m + 1 + n := by rw [← hm, ← hn2]; exact h2
    rw [hm] at HS1
    rw [hn2] at HS2
    have i1 : IntKind.i64.wrap (2 * (n : Int)) = 2 * (n : Int) := IntWalk.i64_in _ (by omega)
    have cOd : w.drew.cell? ⟨rb, 4, none⟩ = some (.pointer prr) := cO
    clear hl hn hB hrl hrr hm hn2 hs h2
    go_enter Try.func95, Try.ntmps95
    go_wp2_with fail
    go_region_held3 (fun w' => w'.cell? ⟨rb, 4, none⟩ = some (.pointer prr)) (first | exact cOd) (first
      | (go_at_call 81
         (with_reducible refine HS1.out.mono ?_)
         clear HS1
         rintro _ wz ⟨rfl, hw0⟩
         replace hw0 := hw0.symm
         subst hw0)
      | (go_at_call 81
         (with_reducible refine HS2.out.mono ?_)
         clear HS2
         rintro _ wz ⟨rfl, hw0⟩
         replace hw0 := hw0.symm
         subst hw0)
      | fail)
    all_goals (
      by_cases hc : 2 * n ≤ m
      · cases rl with
        | nil =>
          exfalso
          have : 0 = m := HM.out
          omega
        | node ik iv il ir =>
          have HT := Lib.hid (show Tr.turnL l k v (.node rk rv (.node ik iv il ir) rr) = .node ik iv (.node k v l il) (.node rk rv ir rr) from by unfold Tr.turnL; simp only; rw [if_pos (by rw [HM.out, HNN.out]; exact hc)])
          obtain ⟨ib, pil, pir, rfl, hib, hil, hir⟩ := HI.out
          have hsi : il.size + 1 + ir.size = m := HM.out
          have hcI : (m : Int) ≥ 2 * (n : Int) := by omega
          have hj := join_any (HL.out.keep (KeepN.drew2 w)) (HN.out.keep (KeepN.drew2 w)) (hil.keep (KeepN.drew2 w)) (by omega)
          have HJ1 := Lib.hid hj
          have HIL := Lib.hid hil
          have HIR := Lib.hid hir
          have HIB := Lib.hid hib
          have e1 : w.drew.drew.cell? ⟨ib, 3, none⟩ = some (.pointer pil) := hib.cell 3
          have e2 : w.drew.drew.cell? ⟨ib, 4, none⟩ = some (.pointer pir) := hib.cell 4
          clear hib hil hir hj cI cO cOd
          go_wp2_with fail
          go_region_held3 (fun w' => w'.cell? ⟨ib, 3, none⟩ = some (.pointer pil) ∧ w'.cell? ⟨ib, 4, none⟩ = some (.pointer pir) ∧ w'.cell? ⟨rb, 4, none⟩ = some (.pointer prr)) (first | exact ⟨e1, e2, HB.out.cell 4⟩ | exact ⟨HIB1.out.cell 3, HIB1.out.cell 4, HB1.out.cell 4⟩ | exact ⟨HIB2.out.cell 3, HIB2.out.cell 4, HB2.out.cell 4⟩ | exact ⟨HIB3.out.cell 3, HIB3.out.cell 4, HB3.out.cell 4⟩) (first
            | (go_at_call 94
               (with_reducible refine HJ1.out.mono ?_)
               clear HJ1
               rintro _ w1 ⟨p1, rfl, ht1, hb1⟩
               have K1 := Lib.hid (KeepN.of (((Below.refl _ w).drew.drew).trans hb1))
               have HB1 := Lib.hid (K1.out _ _ HB.out)
               have HIB1 := Lib.hid (K1.out _ _ HIB.out)
               have HT1 := Lib.hid ht1
               have BL1 := Lib.hid (show Below w.heap.size w w1 from ((Below.refl _ w).drew.drew).trans hb1)
               have HJ2 := Lib.hid (join_any (b := rb) (HIR.out.keep K1.out) (show Nd w1 rb rk rv from ⟨_, _, _, HB1.out⟩) (HO.out.keep K1.out) (by rw [HNN.out]; omega))
               clear ht1 hb1)
            | (go_at_call 94
               (with_reducible refine HJ2.out.mono ?_)
               clear HJ2
               rintro _ w2 ⟨p2, rfl, ht2, hb2⟩
               have K2 := Lib.hid (KeepN.of hb2)
               have HB2 := Lib.hid (K2.out _ _ HB1.out)
               have HIB2 := Lib.hid (K2.out _ _ HIB1.out)
               have BL2 := Lib.hid (BL1.out.trans (hb2.mono BL1.out.size))
               have HJ3 := Lib.hid (join_any (b := ib) (HT1.out.keep K2.out) (show Nd w2 ib ik iv from ⟨_, _, _, HIB2.out⟩) ht2 (by show l.size + 1 + il.size + (ir.size + 1 + rr.size) ≤ 1000000; rw [HNN.out]; omega))
               clear ht2 hb2)
            | (go_at_call 94
               (with_reducible refine HJ3.out.mono ?_)
               clear HJ3
               rintro _ w3 ⟨p3, rfl, ht3, hb3⟩
               have K3 := Lib.hid (KeepN.of hb3)
               have HB3 := Lib.hid (K3.out _ _ HB2.out)
               have HIB3 := Lib.hid (K3.out _ _ HIB2.out)
               have BL3 := Lib.hid (BL2.out.trans (hb3.mono BL2.out.size))
               have HT3 := Lib.hid ht3
               clear ht3 hb3)
            | fail)
          all_goals (
            go_wp2
            go_ret
            exact ⟨_, rfl, by rw [HT.out]; exact HT3.out, BL3.out⟩)
      · have HT := Lib.hid (show Tr.turnL l k v (.node rk rv rl rr) = .node rk rv (.node k v l rl) rr from by unfold Tr.turnL; simp only; rw [if_neg (by rw [HM.out, HNN.out]; exact hc)])
        have hcI : ¬ (m : Int) ≥ 2 * (n : Int) := by omega
        have hj := join_any (HL.out.keep (KeepN.drew2 w)) (HN.out.keep (KeepN.drew2 w)) (HI.out.keep (KeepN.drew2 w)) (by rw [HM.out]; omega)
        have HJ1 := Lib.hid hj
        have e1 : w.drew.drew.cell? ⟨rb, 3, none⟩ = some (.pointer prl) := cI
        clear hj cI cO cOd
        go_wp2_with fail
        go_region_held3 (fun w' => w'.cell? ⟨rb, 3, none⟩ = some (.pointer prl) ∧ w'.cell? ⟨rb, 4, none⟩ = some (.pointer prr)) (first | exact ⟨e1, HB.out.cell 4⟩ | exact ⟨HB1.out.cell 3, HB1.out.cell 4⟩ | exact ⟨HB2.out.cell 3, HB2.out.cell 4⟩) (first
          | (go_at_call 94
             (with_reducible refine HJ1.out.mono ?_)
             clear HJ1
             rintro _ w1 ⟨p1, rfl, ht1, hb1⟩
             have K1 := Lib.hid (KeepN.of (((Below.refl _ w).drew.drew).trans hb1))
             have HB1 := Lib.hid (K1.out _ _ HB.out)
             have BL1 := Lib.hid (show Below w.heap.size w w1 from ((Below.refl _ w).drew.drew).trans hb1)
             have HJ2 := Lib.hid (join_any (b := rb) ht1 (show Nd w1 rb rk rv from ⟨_, _, _, HB1.out⟩) (HO.out.keep K1.out) (by show l.size + 1 + rl.size + rr.size ≤ 1000000; rw [HNN.out, HM.out]; omega))
             clear ht1 hb1)
          | (go_at_call 94
             (with_reducible refine HJ2.out.mono ?_)
             clear HJ2
             rintro _ w2 ⟨p2, rfl, ht2, hb2⟩
             have K2 := Lib.hid (KeepN.of hb2)
             have HB2 := Lib.hid (K2.out _ _ HB1.out)
             have BL2 := Lib.hid (BL1.out.trans (hb2.mono BL1.out.size))
             have HT2 := Lib.hid ht2
             clear ht2 hb2)
          | fail)
        all_goals (
          go_wp2
          go_ret
          exact ⟨_, rfl, by rw [HT.out]; exact HT2.out, BL2.out⟩))
end Go.Proofs.Ythcjbljkokflgaa.OI
/- Trees in memory (values: Int): turnRight. -/
namespace Go.Proofs.Ythcjbljkokflgaa.OI
open Go.RowKit
open Go.Lib
set_option linter.unusedVariables false
set_option linter.unusedSimpArgs false
set_option maxRecDepth 100000
set_option maxHeartbeats 8000000 in
theorem turnR_any {w : World} {l r : T} {pl pr : Option Addr} {b : Nat} {k : ByteArray} {v : Int} (hl : IsT w l pl) (hn : Nd w b k v) (hr : IsT w r pr) (hs : l.size + r.size ≤ 100000) (h2 : 2 ≤ l.size) :
    Calls Try.prog 96 #[.pointer pl, .pointer (some ⟨b, 0, none⟩), .pointer pr] w fun e w' => ∃ p, e = .returned (.pointer p) ∧ IsT w' (Tr.turnR l k v r) p ∧ Below w.heap.size w w' := by
  cases l with
  | nil => exact absurd h2 (by show ¬ 2 ≤ 0; omega)
  | node lk lv ll lr =>
    have HR := Lib.hid hr
    have HN := Lib.hid hn
    obtain ⟨lb, pll, plr, rfl, hB, hll, hlr⟩ := hl
    have cI : w.cell? ⟨lb, 4, none⟩ = some (.pointer plr) := hB.cell 4
    have cO : w.cell? ⟨lb, 3, none⟩ = some (.pointer pll) := hB.cell 3
    have HS1 := Lib.hid (size_any (hlr.keep (KeepN.drew w)))
    have HS2 := Lib.hid (size_any (hll.keep (KeepN.drew w)))
    have HI := Lib.hid hlr
    have HO := Lib.hid hll
    have HB := Lib.hid hB
    obtain ⟨m, hm⟩ : ∃ m, lr.size = m := ⟨_, rfl⟩
    obtain ⟨n, hn2⟩ : ∃ n, ll.size = n := ⟨_, rfl⟩
    have HM := Lib.hid hm
    have HNN := Lib.hid hn2
    have hs' : (n + 1 + m) + r.size ≤ 100000 := by rw [← hm, ← hn2]; exact hs
    have h2' : 2 ≤ n + 1 + m := by rw [← hm, ← hn2]; exact h2
    rw [hm] at HS1
    rw [hn2] at HS2
    have i1 : IntKind.i64.wrap (2 * (n : Int)) = 2 * (n : Int) := IntWalk.i64_in _ (by omega)
    have cOd : w.drew.cell? ⟨lb, 3, none⟩ = some (.pointer pll) := cO
    clear hr hn hB hll hlr hm hn2 hs h2
    go_enter Try.func96, Try.ntmps96
    go_wp2_with fail
    go_region_held3 (fun w' => w'.cell? ⟨lb, 3, none⟩ = some (.pointer pll)) (first | exact cOd) (first
      | (go_at_call 81
         (with_reducible refine HS1.out.mono ?_)
         clear HS1
         rintro _ wz ⟨rfl, hw0⟩
         replace hw0 := hw0.symm
         subst hw0)
      | (go_at_call 81
         (with_reducible refine HS2.out.mono ?_)
         clear HS2
         rintro _ wz ⟨rfl, hw0⟩
         replace hw0 := hw0.symm
         subst hw0)
      | fail)
    all_goals (
      by_cases hc : 2 * n ≤ m
      · cases lr with
        | nil =>
          exfalso
          have : 0 = m := HM.out
          omega
        | node ik iv il ir =>
          have HT := Lib.hid (show Tr.turnR (.node lk lv ll (.node ik iv il ir)) k v r = .node ik iv (.node lk lv ll il) (.node k v ir r) from by unfold Tr.turnR; simp only; rw [if_pos (by rw [HM.out, HNN.out]; exact hc)])
          obtain ⟨ib, pil, pir, rfl, hib, hil, hir⟩ := HI.out
          have hsi : il.size + 1 + ir.size = m := HM.out
          have hcI : (m : Int) ≥ 2 * (n : Int) := by omega
          have hj := join_any (b := lb) (HO.out.keep (KeepN.drew2 w)) (show Nd w.drew.drew lb lk lv from ⟨_, _, _, HB.out⟩) (hil.keep (KeepN.drew2 w)) (by rw [HNN.out]; omega)
          have HJ1 := Lib.hid hj
          have HIL := Lib.hid hil
          have HIR := Lib.hid hir
          have HIB := Lib.hid hib
          have e1 : w.drew.drew.cell? ⟨ib, 3, none⟩ = some (.pointer pil) := hib.cell 3
          have e2 : w.drew.drew.cell? ⟨ib, 4, none⟩ = some (.pointer pir) := hib.cell 4
          clear hib hil hir hj cI cO cOd
          go_wp2_with fail
          go_region_held3 (fun w' => w'.cell? ⟨ib, 3, none⟩ = some (.pointer pil) ∧ w'.cell? ⟨ib, 4, none⟩ = some (.pointer pir) ∧ w'.cell? ⟨lb, 3, none⟩ = some (.pointer pll)) (first | exact ⟨e1, e2, HB.out.cell 3⟩ | exact ⟨HIB1.out.cell 3, HIB1.out.cell 4, HB1.out.cell 3⟩ | exact ⟨HIB2.out.cell 3, HIB2.out.cell 4, HB2.out.cell 3⟩ | exact ⟨HIB3.out.cell 3, HIB3.out.cell 4, HB3.out.cell 3⟩) (first
            | (go_at_call 94
               (with_reducible refine HJ1.out.mono ?_)
               clear HJ1
               rintro _ w1 ⟨p1, rfl, ht1, hb1⟩
               have K1 := Lib.hid (KeepN.of (((Below.refl _ w).drew.drew).trans hb1))
               have HB1 := Lib.hid (K1.out _ _ HB.out)
               have HIB1 := Lib.hid (K1.out _ _ HIB.out)
               have HT1 := Lib.hid ht1
               have BL1 := Lib.hid (show Below w.heap.size w w1 from ((Below.refl _ w).drew.drew).trans hb1)
               have HJ2 := Lib.hid (join_any (HIR.out.keep K1.out) (HN.out.keep K1.out) (HR.out.keep K1.out) (by omega))
               clear ht1 hb1)
            | (go_at_call 94
               (with_reducible refine HJ2.out.mono ?_)
               clear HJ2
               rintro _ w2 ⟨p2, rfl, ht2, hb2⟩
               have K2 := Lib.hid (KeepN.of hb2)
               have HB2 := Lib.hid (K2.out _ _ HB1.out)
               have HIB2 := Lib.hid (K2.out _ _ HIB1.out)
               have BL2 := Lib.hid (BL1.out.trans (hb2.mono BL1.out.size))
               have HJ3 := Lib.hid (join_any (b := ib) (HT1.out.keep K2.out) (show Nd w2 ib ik iv from ⟨_, _, _, HIB2.out⟩) ht2 (by show ll.size + 1 + il.size + (ir.size + 1 + r.size) ≤ 1000000; rw [HNN.out]; omega))
               clear ht2 hb2)
            | (go_at_call 94
               (with_reducible refine HJ3.out.mono ?_)
               clear HJ3
               rintro _ w3 ⟨p3, rfl, ht3, hb3⟩
               have K3 := Lib.hid (KeepN.of hb3)
               have HB3 := Lib.hid (K3.out _ _ HB2.out)
               have HIB3 := Lib.hid (K3.out _ _ HIB2.out)
               have BL3 := Lib.hid (BL2.out.trans (hb3.mono BL2.out.size))
               have HT3 := Lib.hid ht3
               clear ht3 hb3)
            | fail)
          all_goals (
            go_wp2
            go_ret
            exact ⟨_, rfl, by rw [HT.out]; exact HT3.out, BL3.out⟩)
      · have HT := Lib.hid (show Tr.turnR (.node lk lv ll lr) k v r = .node lk lv ll (.node k v lr r) from by unfold Tr.turnR; simp only; rw [if_neg (by rw [HM.out, HNN.out]; exact hc)])
        have hcI : ¬ (m : Int) ≥ 2 * (n : Int) := by omega
        have hj := join_any (HI.out.keep (KeepN.drew2 w)) (HN.out.keep (KeepN.drew2 w)) (HR.out.keep (KeepN.drew2 w)) (by rw [HM.out]; omega)
        have HJ1 := Lib.hid hj
        have e1 : w.drew.drew.cell? ⟨lb, 4, none⟩ = some (.pointer plr) := cI
        clear hj cI cO cOd
        go_wp2_with fail
        go_region_held3 (fun w' => w'.cell? ⟨lb, 3, none⟩ = some (.pointer pll) ∧ w'.cell? ⟨lb, 4, none⟩ = some (.pointer plr)) (first | exact ⟨HB.out.cell 3, e1⟩ | exact ⟨HB1.out.cell 3, HB1.out.cell 4⟩ | exact ⟨HB2.out.cell 3, HB2.out.cell 4⟩) (first
          | (go_at_call 94
             (with_reducible refine HJ1.out.mono ?_)
             clear HJ1
             rintro _ w1 ⟨p1, rfl, ht1, hb1⟩
             have K1 := Lib.hid (KeepN.of (((Below.refl _ w).drew.drew).trans hb1))
             have HB1 := Lib.hid (K1.out _ _ HB.out)
             have BL1 := Lib.hid (show Below w.heap.size w w1 from ((Below.refl _ w).drew.drew).trans hb1)
             have HJ2 := Lib.hid (join_any (b := lb) (HO.out.keep K1.out) (show Nd w1 lb lk lv from ⟨_, _, _, HB1.out⟩) ht1 (by show ll.size + (lr.size + 1 + r.size) ≤ 1000000; rw [HNN.out, HM.out]; omega))
             clear ht1 hb1)
          | (go_at_call 94
             (with_reducible refine HJ2.out.mono ?_)
             clear HJ2
             rintro _ w2 ⟨p2, rfl, ht2, hb2⟩
             have K2 := Lib.hid (KeepN.of hb2)
             have HB2 := Lib.hid (K2.out _ _ HB1.out)
             have BL2 := Lib.hid (BL1.out.trans (hb2.mono BL1.out.size))
             have HT2 := Lib.hid ht2
             clear ht2 hb2)
          | fail)
        all_goals (
          go_wp2
          go_ret
          exact ⟨_, rfl, by rw [HT.out]; exact HT2.out, BL2.out⟩))
end Go.Proofs.Ythcjbljkokflgaa.OI
/- Trees in memory (values: Int): balance. -/
namespace Go.Proofs.Ythcjbljkokflgaa.OI
open Go.RowKit
open Go.Lib
set_option linter.unusedVariables false
set_option linter.unusedSimpArgs false
set_option maxRecDepth 100000
set_option maxHeartbeats 4000000 in
theorem bal_any {w : World} {l r : T} {pl pr : Option Addr} {b : Nat} {k : ByteArray} {v : Int} (hl : IsT w l pl) (hn : Nd w b k v) (hr : IsT w r pr) (hs : l.size + r.size ≤ 100000) :
    Calls Try.prog 89 #[.pointer pl, .pointer (some ⟨b, 0, none⟩), .pointer pr] w fun e w' => ∃ p, e = .returned (.pointer p) ∧ IsT w' (Tr.bal l k v r) p ∧ Below w.heap.size w w' := by
  have HS1 := Lib.hid (size_any hl)
  have HS2 := Lib.hid (size_any hr)
  have HJ := Lib.hid (join_any hl hn hr (by omega))
  have HTL := Lib.hid (fun h => turnL_any hl hn hr hs h)
  have HTR := Lib.hid (fun h => turnR_any hl hn hr hs h)
  have HE := Lib.hid (show Tr.bal l k v r = if l.size + r.size < 2 then .node k v l r else if 3 * l.size < r.size then Tr.turnL l k v r else if 3 * r.size < l.size then Tr.turnR l k v r else .node k v l r from rfl)
  obtain ⟨X, hX⟩ : ∃ X, Tr.bal l k v r = X := ⟨_, rfl⟩
  rw [hX] at HE ⊢
  obtain ⟨m, hm⟩ : ∃ m, l.size = m := ⟨_, rfl⟩
  obtain ⟨n, hn2⟩ : ∃ n, r.size = n := ⟨_, rfl⟩
  rw [hm, hn2] at HE hs
  rw [hm] at HS1 HTR
  rw [hn2] at HS2 HTL
  have i0 : IntKind.i64.wrap ((m : Int) + (n : Int)) = (m : Int) + (n : Int) := IntWalk.i64_in _ (by omega)
  have i1 : IntKind.i64.wrap (3 * (m : Int)) = 3 * (m : Int) := IntWalk.i64_in _ (by omega)
  have i2 : IntKind.i64.wrap (3 * (n : Int)) = 3 * (n : Int) := IntWalk.i64_in _ (by omega)
  clear hl hn hr hX hm hn2
  go_enter Try.func89, Try.ntmps89
  go_wp2_with fail
  refine HS1.out.mono ?_
  rintro _ wz ⟨rfl, hw0⟩
  replace hw0 := hw0.symm
  subst hw0
  go_wp2_with fail
  refine HS2.out.mono ?_
  rintro _ wz ⟨rfl, hw0⟩
  replace hw0 := hw0.symm
  subst hw0
  by_cases h1 : m + n < 2
  · have hX := HE.out
    rw [if_pos h1] at hX
    have h1I : (m : Int) + (n : Int) < 2 := by omega
    have HX := Lib.hid hX
    clear hX
    go_wp2_with fail
    refine HJ.out.mono ?_
    rintro _ w1 ⟨p, rfl, ht, hb⟩
    have HT := Lib.hid ht
    have HB := Lib.hid hb
    clear ht hb
    go_wp2
    go_ret
    exact ⟨_, rfl, by rw [HX.out]; exact HT.out, HB.out⟩
  · have h1I : ¬ (m : Int) + (n : Int) < 2 := by omega
    by_cases h2 : 3 * m < n
    · have hX := HE.out
      rw [if_neg h1, if_pos h2] at hX
      have h2I : 3 * (m : Int) < (n : Int) := by omega
      have HX := Lib.hid hX
      have HJ2 := Lib.hid (HTL.out (by omega))
      clear hX
      go_wp2_with fail
      refine HJ2.out.mono ?_
      rintro _ w1 ⟨p, rfl, ht, hb⟩
      have HT := Lib.hid ht
      have HB := Lib.hid hb
      clear ht hb
      go_wp2
      go_ret
      exact ⟨_, rfl, by rw [HX.out]; exact HT.out, HB.out⟩
    · have h2I : ¬ 3 * (m : Int) < (n : Int) := by omega
      by_cases h3 : 3 * n < m
      · have hX := HE.out
        rw [if_neg h1, if_neg h2, if_pos h3] at hX
        have h3I : 3 * (n : Int) < (m : Int) := by omega
        have HX := Lib.hid hX
        have HJ2 := Lib.hid (HTR.out (by omega))
        clear hX
        go_wp2_with fail
        refine HJ2.out.mono ?_
        rintro _ w1 ⟨p, rfl, ht, hb⟩
        have HT := Lib.hid ht
        have HB := Lib.hid hb
        clear ht hb
        go_wp2
        go_ret
        exact ⟨_, rfl, by rw [HX.out]; exact HT.out, HB.out⟩
      · have hX := HE.out
        rw [if_neg h1, if_neg h2, if_neg h3] at hX
        have h3I : ¬ 3 * (n : Int) < (m : Int) := by omega
        have HX := Lib.hid hX
        clear hX
        go_wp2_with fail
        refine HJ.out.mono ?_
        rintro _ w1 ⟨p, rfl, ht, hb⟩
        have HT := Lib.hid ht
        have HB := Lib.hid hb
        clear ht hb
        go_wp2
        go_ret
        exact ⟨_, rfl, by rw [HX.out]; exact HT.out, HB.out⟩
end Go.Proofs.Ythcjbljkokflgaa.OI
namespace Go.Proofs.Ythcjbljkokflgaa.OI
open Go.RowKit
open Go.Lib
set_option linter.unusedVariables false
set_option linter.unusedSimpArgs false
set_option maxRecDepth 100000
set_option maxHeartbeats 8000000 in
theorem put_any (k : ByteArray) (v : Int) : ∀ {t : T} {w : World} {p : Option Addr}, IsT w t p → t.size ≤ 50000 →
    Calls Try.prog 80 #[.pointer p, .string k, .int .i64 v] w fun e w' => ∃ p', e = .returned (.pointer p') ∧ IsT w' (Tr.put k v t) p' ∧ Below w.heap.size w w' := by
  intro t
  induction t with
  | nil =>
    intro w p h hs
    obtain rfl : p = none := h
    go_enter Try.func80, Try.ntmps80
    go_wp2
    go_ret
    exact ⟨_, rfl, ⟨w.heap.size, none, none, rfl, Blk.new w 138 _, rfl, rfl⟩, (Below.refl _ w).alloc (Nat.le_refl _) _⟩
  | node k' v' l r ihl ihr =>
    intro w p h hs
    obtain ⟨b, pl, pr, rfl, hB, hl, hr⟩ := h
    have hs' : l.size + 1 + r.size ≤ 50000 := hs
    have c0 : w.cell? ⟨b, 0, none⟩ = some (.string k') := hB.cell 0
    have c2 : w.cell? ⟨b, 2, none⟩ = some (.int .i64 ((l.size + 1 + r.size : Nat) : Int)) := hB.cell 2
    have c3 : w.cell? ⟨b, 3, none⟩ = some (.pointer pl) := hB.cell 3
    have c4 : w.cell? ⟨b, 4, none⟩ = some (.pointer pr) := hB.cell 4
    have e1 : w.drew.cell? ⟨b, 3, none⟩ = some (.pointer pl) := c3
    have e2 : w.drew.cell? ⟨b, 4, none⟩ = some (.pointer pr) := c4
    have HB := Lib.hid hB
    have HL := Lib.hid hl
    have HR := Lib.hid hr
    have hpl := Tr.size_put k v l
    have hpr := Tr.size_put k v r
    have IHL := Lib.hid (ihl (hl.keep (KeepN.drew w)) (by omega))
    have IHR := Lib.hid (ihr (hr.keep (KeepN.drew w)) (by omega))
    have HE := Lib.hid (show Tr.put k v (.node k' v' l r) = if klt k k' = true then Tr.bal (Tr.put k v l) k' v' r else if k = k' then .node k v l r else Tr.bal l k' v' (Tr.put k v r) from rfl)
    clear ihl ihr hB hl hr
    by_cases hk : klt k k' = true
    · have hkb : Op.bytesLess k.toList k'.toList = true := hk
      have HEE := Lib.hid (HE.out.trans (if_pos hk))
      have IH1 := IHL
      clear HE hk IHL IHR
      go_enter Try.func80, Try.ntmps80
      go_wp2_with fail
      go_region_held3 (fun w' => w'.cell? ⟨b, 3, none⟩ = some (.pointer pl) ∧ w'.cell? ⟨b, 4, none⟩ = some (.pointer pr)) (first | exact ⟨e1, e2⟩ | exact ⟨HB1.out.cell 3, HB1.out.cell 4⟩ | exact ⟨HB2.out.cell 3, HB2.out.cell 4⟩) (first
        | (go_at_call 80
           (with_reducible refine IH1.out.mono ?_)
           clear IH1
           rintro _ w1 ⟨p1, rfl, ht1, hb1⟩
           have K1 := Lib.hid (KeepN.of (((Below.refl _ w).drew).trans hb1))
           have HB1 := Lib.hid (K1.out _ _ HB.out)
           have BL1 := Lib.hid (show Below w.heap.size w w1 from ((Below.refl _ w).drew).trans hb1)
           have HJ2 := Lib.hid (bal_any (b := b) ht1 (show Nd w1 b k' v' from ⟨_, _, _, HB1.out⟩) (HR.out.keep K1.out) (by omega))
           clear ht1 hb1)
        | (go_at_call 89
           (with_reducible refine HJ2.out.mono ?_)
           clear HJ2
           rintro _ w2 ⟨p2, rfl, ht2, hb2⟩
           have K2 := Lib.hid (KeepN.of hb2)
           have HB2 := Lib.hid (K2.out _ _ HB1.out)
           have BL2 := Lib.hid (BL1.out.trans (hb2.mono BL1.out.size))
           have HT2 := Lib.hid ht2
           clear ht2 hb2)
        | fail)
      all_goals (
        go_wp2
        go_ret
        exact ⟨_, rfl, by rw [HEE.out]; exact HT2.out, BL2.out⟩)
    · have hkb : Op.bytesLess k.toList k'.toList = false := by have : klt k k' = false := by simpa using hk
                                                               exact this
      by_cases he : k = k'
      · have HEE := Lib.hid (HE.out.trans ((if_neg hk).trans (if_pos he)))
        subst he
        clear HE hk IHL IHR
        go_enter Try.func80, Try.ntmps80
        go_wp2_with fail
        go_region
        all_goals (
          go_wp2
          go_ret
          refine ⟨_, rfl, ?_, ?_⟩
          · rw [HEE.out]
            refine ⟨w.heap.size, pl, pr, rfl, ?_, HL.out.keep ?_, HR.out.keep ?_⟩
            · have hsz : ((l.size + 1 + r.size : Nat) : Int) = (l.size : Int) + 1 + (r.size : Int) := by omega
              rw [hsz]
              exact (Blk.new w 138 _).drew
            · exact KeepN.of (((Below.refl _ w).alloc (Nat.le_refl _) _).drew)
            · exact KeepN.of (((Below.refl _ w).alloc (Nat.le_refl _) _).drew)
          · exact ((Below.refl _ w).alloc (Nat.le_refl _) _).drew)
      · have HEE := Lib.hid (HE.out.trans ((if_neg hk).trans (if_neg he)))
        have heb : (k.toList == k'.toList) = false := by rw [keq]; exact decide_eq_false he
        have IH1 := IHR
        clear HE hk he IHL IHR
        go_enter Try.func80, Try.ntmps80
        go_wp2_with fail
        go_region_held3 (fun w' => w'.cell? ⟨b, 3, none⟩ = some (.pointer pl) ∧ w'.cell? ⟨b, 4, none⟩ = some (.pointer pr)) (first | exact ⟨e1, e2⟩ | exact ⟨HB1.out.cell 3, HB1.out.cell 4⟩ | exact ⟨HB2.out.cell 3, HB2.out.cell 4⟩) (first
          | (go_at_call 80
             (with_reducible refine IH1.out.mono ?_)
             clear IH1
             rintro _ w1 ⟨p1, rfl, ht1, hb1⟩
             have K1 := Lib.hid (KeepN.of (((Below.refl _ w).drew).trans hb1))
             have HB1 := Lib.hid (K1.out _ _ HB.out)
             have BL1 := Lib.hid (show Below w.heap.size w w1 from ((Below.refl _ w).drew).trans hb1)
             have HJ2 := Lib.hid (bal_any (b := b) (HL.out.keep K1.out) (show Nd w1 b k' v' from ⟨_, _, _, HB1.out⟩) ht1 (by omega))
             clear ht1 hb1)
          | (go_at_call 89
             (with_reducible refine HJ2.out.mono ?_)
             clear HJ2
             rintro _ w2 ⟨p2, rfl, ht2, hb2⟩
             have K2 := Lib.hid (KeepN.of hb2)
             have HB2 := Lib.hid (K2.out _ _ HB1.out)
             have BL2 := Lib.hid (BL1.out.trans (hb2.mono BL1.out.size))
             have HT2 := Lib.hid ht2
             clear ht2 hb2)
          | fail)
        all_goals (
          go_wp2
          go_ret
          exact ⟨_, rfl, by rw [HEE.out]; exact HT2.out, BL2.out⟩)
  
end Go.Proofs.Ythcjbljkokflgaa.OI
