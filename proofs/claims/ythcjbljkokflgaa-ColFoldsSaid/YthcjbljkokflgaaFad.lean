/- Maps over trees (values: Int × ByteArray): under, inside a fence. -/
import Derived.Test.YthcjbljkokflgaaFac
import Derived.Deep.RegionWith
import Derived.RangeFuncNested
import Derived.RangeFuncBound
import Derived.RangeFuncCalls
import Derived.RangeFuncLeaves
import Derived.Shelf.Abstract
import Derived.Shelf.RegionOpen
import Derived.Stop.RegionWithIn
import Derived.OwnWalkIn
import Derived.TacticsInMore
import Derived.LoopNIn
import Derived.LoopIn
set_option linter.unnecessarySimpa false
/- Trees in memory (values: Int × ByteArray): del. -/
namespace Go.Proofs.Ythcjbljkokflgaa.OC
open Go.RowKit
open Go.Lib
set_option linter.unusedVariables false
set_option linter.unusedSimpArgs false
set_option maxRecDepth 100000
set_option maxHeartbeats 8000000 in
theorem del_any : ∀ t : T, DelOk t := by
  intro t
  induction t with
  | nil =>
    intro k w p h hs
    obtain rfl : p = none := h
    go_enter Try.func58, Try.ntmps58
    go_wp2
    go_ret
    exact ⟨_, rfl, rfl, Below.refl _ _⟩
  | node k' v' l r ihl ihr =>
    intro k w p h hs
    obtain ⟨b, pl, pr, rfl, hB, hl, hr⟩ := h
    have hs' : l.size + 1 + r.size ≤ 50000 := hs
    have c0 : w.cell? ⟨b, 0, none⟩ = some (.string k') := hB.cell 0
    have c3 : w.cell? ⟨b, 4, none⟩ = some (.pointer pl) := hB.cell 4
    have c4 : w.cell? ⟨b, 5, none⟩ = some (.pointer pr) := hB.cell 5
    have e1 : w.drew.cell? ⟨b, 4, none⟩ = some (.pointer pl) := c3
    have e2 : w.drew.cell? ⟨b, 5, none⟩ = some (.pointer pr) := c4
    have HB := Lib.hid hB
    have HL := Lib.hid hl
    have HR := Lib.hid hr
    have hpl := Tr.size_del l k
    have hpr := Tr.size_del r k
    have IHL := Lib.hid (ihl k (hl.keep (KeepN.drew w)) (by omega))
    have IHR := Lib.hid (ihr k (hr.keep (KeepN.drew w)) (by omega))
    have HG := Lib.hid (glue_any (hl.keep (KeepN.drew w)) (hr.keep (KeepN.drew w)) (by omega) ihl ihr)
    have HE := Lib.hid (show Tr.del (.node k' v' l r) k = if klt k k' = true then Tr.bal (Tr.del l k) k' v' r else if k = k' then Tr.glueW l r (Tr.del l) (Tr.del r) else Tr.bal l k' v' (Tr.del r k) from rfl)
    clear ihl ihr hB hl hr
    by_cases hk : klt k k' = true
    · have hkb : Op.bytesLess k.toList k'.toList = true := hk
      have HEE := Lib.hid (HE.out.trans (if_pos hk))
      have IH1 := IHL
      clear HE hk IHL IHR
      go_enter Try.func58, Try.ntmps58
      go_wp2_with fail
      go_region_held3 (fun w' => w'.cell? ⟨b, 4, none⟩ = some (.pointer pl) ∧ w'.cell? ⟨b, 5, none⟩ = some (.pointer pr)) (first | exact ⟨e1, e2⟩ | exact ⟨HB1.out.cell 4, HB1.out.cell 5⟩ | exact ⟨HB2.out.cell 4, HB2.out.cell 5⟩) (first
        | (go_at_call 58
           (with_reducible refine IH1.out.mono ?_)
           clear IH1
           rintro _ w1 ⟨p1, rfl, ht1, hb1⟩
           have K1 := Lib.hid (KeepN.of (((Below.refl _ w).drew).trans hb1))
           have HB1 := Lib.hid (K1.out _ _ HB.out)
           have BL1 := Lib.hid (show Below w.heap.size w w1 from ((Below.refl _ w).drew).trans hb1)
           have HJ2 := Lib.hid (bal_any (b := b) ht1 (show Nd w1 b k' v' from ⟨_, _, _, HB1.out⟩) (HR.out.keep K1.out) (by omega))
           clear ht1 hb1)
        | (go_at_call 73
           (with_reducible refine HJ2.out.mono ?_)
           clear HJ2
           rintro _ w2 ⟨p2, rfl, ht2, hb2⟩
           have K2 := Lib.hid (KeepN.of hb2)
           have HB2 := Lib.hid (K2.out _ _ HB1.out)
           have BL2 := Lib.hid (BL1.out.trans (hb2.mono BL1.out.size))
           have HT2 := Lib.hid ht2
           clear ht2 hb2)
        | fail)
      all_goals (
        go_wp2
        go_ret
        exact ⟨_, rfl, by rw [HEE.out]; exact HT2.out, BL2.out⟩)
    · have hkb : Op.bytesLess k.toList k'.toList = false := by have : klt k k' = false := by simpa using hk
                                                               exact this
      by_cases he : k = k'
      · have HEE := Lib.hid (HE.out.trans ((if_neg hk).trans (if_pos he)))
        subst he
        clear HE hk IHL IHR
        go_enter Try.func58, Try.ntmps58
        go_wp2_with fail
        go_region_held3 (fun w' => w'.cell? ⟨b, 4, none⟩ = some (.pointer pl) ∧ w'.cell? ⟨b, 5, none⟩ = some (.pointer pr)) (first | exact ⟨e1, e2⟩ | exact ⟨HB1.out.cell 4, HB1.out.cell 5⟩ | exact ⟨HB2.out.cell 4, HB2.out.cell 5⟩) (first
          | (go_at_call 74
             (with_reducible refine HG.out.mono ?_)
             clear HG
             rintro _ w1 ⟨p1, rfl, ht1, hb1⟩
             have K1 := Lib.hid (KeepN.of (((Below.refl _ w).drew).trans hb1))
             have HB1 := Lib.hid (K1.out _ _ HB.out)
             have BL1 := Lib.hid (show Below w.heap.size w w1 from ((Below.refl _ w).drew).trans hb1)
             have HT1 := Lib.hid ht1
             clear ht1 hb1)
          | fail)
        all_goals (
          go_wp2
          go_ret
          exact ⟨_, rfl, by rw [HEE.out]; exact HT1.out, BL1.out⟩)
      · have HEE := Lib.hid (HE.out.trans ((if_neg hk).trans (if_neg he)))
        have heb : (k.toList == k'.toList) = false := by rw [keq]; exact decide_eq_false he
        have IH1 := IHR
        clear HE hk he IHL IHR
        go_enter Try.func58, Try.ntmps58
        go_wp2_with fail
        go_region_held3 (fun w' => w'.cell? ⟨b, 4, none⟩ = some (.pointer pl) ∧ w'.cell? ⟨b, 5, none⟩ = some (.pointer pr)) (first | exact ⟨e1, e2⟩ | exact ⟨HB1.out.cell 4, HB1.out.cell 5⟩ | exact ⟨HB2.out.cell 4, HB2.out.cell 5⟩) (first
          | (go_at_call 58
             (with_reducible refine IH1.out.mono ?_)
             clear IH1
             rintro _ w1 ⟨p1, rfl, ht1, hb1⟩
             have K1 := Lib.hid (KeepN.of (((Below.refl _ w).drew).trans hb1))
             have HB1 := Lib.hid (K1.out _ _ HB.out)
             have BL1 := Lib.hid (show Below w.heap.size w w1 from ((Below.refl _ w).drew).trans hb1)
             have HJ2 := Lib.hid (bal_any (b := b) (HL.out.keep K1.out) (show Nd w1 b k' v' from ⟨_, _, _, HB1.out⟩) ht1 (by omega))
             clear ht1 hb1)
          | (go_at_call 73
             (with_reducible refine HJ2.out.mono ?_)
             clear HJ2
             rintro _ w2 ⟨p2, rfl, ht2, hb2⟩
             have K2 := Lib.hid (KeepN.of hb2)
             have HB2 := Lib.hid (K2.out _ _ HB1.out)
             have BL2 := Lib.hid (BL1.out.trans (hb2.mono BL1.out.size))
             have HT2 := Lib.hid ht2
             clear ht2 hb2)
          | fail)
        all_goals (
          go_wp2
          go_ret
          exact ⟨_, rfl, by rw [HEE.out]; exact HT2.out, BL2.out⟩)
  
end Go.Proofs.Ythcjbljkokflgaa.OC
/- Maps over trees (values: Int × ByteArray): Len, Get, Place, At. -/
namespace Go.Proofs.Ythcjbljkokflgaa.OC
open Go.RowKit
open Go.Lib
set_option linter.unusedVariables false
set_option linter.unusedSimpArgs false
set_option maxRecDepth 100000
def ov (o : Option (Int × ByteArray)) : Value := .agg #[.int .i64 (o.getD (0, .empty)).1, .string (o.getD (0, .empty)).2]
/-- A map: its box, and the tree. -/
def Mt (w : World) (g : Nat) (t : T) : Prop := ∃ p, Blk w g 105 #[.pointer p] ∧ IsT w t p
theorem Mt.below {w w' : World} {g : Nat} {t : T} (h : Mt w g t) (hb : Below w.heap.size w w') : Mt w' g t := by
  obtain ⟨p, h1, h2⟩ := h
  exact ⟨p, h1.below hb h1.lt, h2.below hb⟩
theorem len_any {w : World} {g : Nat} {t : T} (h : Mt w g t) : Calls Try.prog 57 #[.pointer (some ⟨g, 0, none⟩)] w fun e w' => e = .returned (.int .i64 (t.size : Int)) ∧ w' = w := by
  obtain ⟨p, h1, h2⟩ := h
  have c0 : w.cell? ⟨g, 0, none⟩ = some (.pointer p) := h1.cell 0
  have HS := Lib.hid (size_any h2)
  clear h1 h2
  go_enter Try.func57, Try.ntmps57
  go_wp2_with fail
  refine HS.out.mono ?_
  rintro _ wz ⟨rfl, hw0⟩
  replace hw0 := hw0.symm
  subst hw0
  go_wp2
  go_ret
  exact ⟨rfl, rfl⟩
theorem results_cell1 {fn : Func} {p u : Tmp} {ty : TypeId} (h : fn.results = #[.cell p ty, .tmp u]) (tmps : Array Value) (P : Program) (w : World) (g : Nat) (t : TypeId) (cs : Array Value) (fr : Nat × Nat) (fs : Array Field)
    (hp : tmps.getD p undef = .pointer (some ⟨g, 0, none⟩)) (hg : w.heap[g]? = some (.cells cs t fr))
    (hu : P.underlying ty = some (.struct fs)) (hi : (P.info? ty).map (·.size) = some cs.size) :
    (results fn tmps).run P w = .ok (.tuple #[.agg cs, tmps.getD u undef]) w := by
  have hp' : tmps[p]?.getD undef = .pointer (some ⟨g, 0, none⟩) := by simpa using hp
  simp [results, h, hp', asAddr, run_loadVar_row w g t ty cs fr _ hg hu rfl hi]
theorem get_out {cs : Array Value} (hc : cs.size = 2) {R : Ending → World → Prop} {a : Act} {w : World} {g : Nat} (h2 : a.tmps.getD 4 undef = .pointer (some ⟨g, 0, none⟩)) (hd : a.defers = []) (hg : Blk w g 68 cs)
    (hR : R (.returned (.tuple #[.agg cs, a.tmps.getD 5 undef])) w) : bodyPost Try.prog Try.f41 R .ret a w :=
  bodyPost_ret (results_cell1 (fn := Try.f41) rfl a.tmps Try.prog w g 68 cs (0, 0) _ h2 hg Try.underlying68 (by rw [hc]; rfl)) hd hR
set_option maxHeartbeats 4000000 in
theorem get_any {w : World} {g : Nat} {t : T} (h : Mt w g t) (k : ByteArray) : Calls Try.prog 41 #[.pointer (some ⟨g, 0, none⟩), .string k] w fun e w' => e = .returned (.tuple #[ov (Tr.get k t), .bool (Tr.get k t).isSome]) ∧ Below w.heap.size w w' := by
  obtain ⟨W, hW⟩ : ∃ W, w.alloc (.cells #[.int .i64 0, .string { data := #[] }] 68) = W := ⟨_, rfl⟩
  have HBW := Lib.hid (show Below w.heap.size w W from hW ▸ (Below.refl _ w).alloc (Nat.le_refl _) _)
  have HX := Lib.hid (show Blk W w.heap.size 68 #[.int .i64 0, .string .empty] from hW ▸ Blk.new w 68 _)
  have hsW : W.heap.size = w.heap.size + 1 := by rw [← hW]; simp
  have HSW := Lib.hid hsW
  clear hsW
  obtain ⟨p, h1, h2⟩ := h.below HBW.out
  have c0 : W.cell? ⟨g, 0, none⟩ = some (.pointer p) := h1.cell 0
  have x0 : W.cell? ⟨w.heap.size, 0, none⟩ = some (.int .i64 0) := HX.out.cell 0
  have x1 : W.cell? ⟨w.heap.size, 1, none⟩ = some (.string .empty) := HX.out.cell 1
  have f0 := HX.out.frozen 0
  have f1 := HX.out.frozen 1
  have HT := Lib.hid h2
  obtain ⟨o, ho⟩ : ∃ o, Tr.get k t = o := ⟨_, rfl⟩
  have HO := Lib.hid ho
  rw [ho]
  clear h h1 h2 ho
  go_enter Try.func41, Try.ntmps41
  go_wp2_with fail
  try rw [hW]
  go_loop [6] (fun q => ∃ (t' : T) (pq : Option Addr), q = .pointer pq ∧ IsT W t' pq ∧ Tr.get k t' = o) (fun q => nodeSz W q)
  case atStart => exact ⟨_, _, rfl, HT.out, HO.out⟩
  case round =>
    obtain ⟨t', pq, rfl, ht, hg⟩ := hrel
    have HG := Lib.hid hg
    cases t' with
    | nil =>
      obtain rfl : pq = none := ht
      obtain rfl : o = none := HG.out.symm
      clear hg
      obtain ⟨W2, hW2⟩ : ∃ W2, W.alloc (.cells #[.int .i64 0, .string { data := #[] }] 68) = W2 := ⟨_, rfl⟩
      have HB2 := Lib.hid (show Below W.heap.size W W2 from hW2 ▸ (Below.refl _ W).alloc (Nat.le_refl _) _)
      have hY : Blk W2 W.heap.size 68 #[.int .i64 0, .string .empty] := hW2 ▸ Blk.new W 68 _
      have HX2 := Lib.hid (HX.out.below HB2.out (by rw [HSW.out]; omega))
      have y0 : W2.cell? ⟨W.heap.size, 0, none⟩ = some (.int .i64 0) := hY.cell 0
      have y1 : W2.cell? ⟨W.heap.size, 1, none⟩ = some (.string .empty) := hY.cell 1
      have z0 : W2.cell? ⟨w.heap.size, 0, none⟩ = some (.int .i64 0) := HX2.out.cell 0
      have z1 : W2.cell? ⟨w.heap.size, 1, none⟩ = some (.string .empty) := HX2.out.cell 1
      have e0 := HX2.out.frozen 0
      have e1 := HX2.out.frozen 1
      have HBT := Lib.hid (HBW.out.trans (HB2.out.mono (by rw [HSW.out]; omega)))
      clear hY
      go_wp2
      exact get_out (cs := #[.int .i64 0, .string .empty]) (g := w.heap.size) rfl rfl rfl ((HX2.out.set_ 0 _).set_ 1 _) ⟨rfl, (HBT.out.setCell (p := ⟨w.heap.size, 0, none⟩) (Nat.le_refl _) _).setCell (p := ⟨w.heap.size, 1, none⟩) (Nat.le_refl _) _⟩
    | node k' v' l r =>
      obtain ⟨b, pl, pr, rfl, hB, hl, hr⟩ := ht
      have d0 : W.cell? ⟨b, 0, none⟩ = some (.string k') := hB.cell 0
      have d1 : W.cell? ⟨b, 1, none⟩ = some (.int .i64 v'.1) := hB.cell 1
      have d2 : W.cell? ⟨b, 2, none⟩ = some (.string v'.2) := hB.cell 2
      have d3 : W.cell? ⟨b, 4, none⟩ = some (.pointer pl) := hB.cell 4
      have d4 : W.cell? ⟨b, 5, none⟩ = some (.pointer pr) := hB.cell 5
      have HM := Lib.hid (show nodeSz W (.pointer (some ⟨b, 0, none⟩)) = _ from nodeSz_of hB)
      have HL := Lib.hid hl
      have HR := Lib.hid hr
      have HGE := Lib.hid (show (if klt k k' = true then Tr.get k l else if k = k' then some v' else Tr.get k r) = o from hg)
      have HLM := Lib.hid (isz hl)
      have HRM := Lib.hid (isz hr)
      clear hg hB hl hr HG
      by_cases hk : klt k k' = true
      · have hkb : Op.bytesLess k.toList k'.toList = true := hk
        have HG2 := Lib.hid ((if_pos hk).symm.trans HGE.out)
        clear hk
        go_wp2_with fail
        go_round
        case rel => exact ⟨l, _, rfl, HL.out, HG2.out⟩
        case measure => rw [HM.out, HLM.out]; omega
      · have hkb : Op.bytesLess k.toList k'.toList = false := by have : klt k k' = false := by simpa using hk
                                                                 exact this
        by_cases he : k = k'
        · have HG2 := Lib.hid ((if_pos he).symm.trans ((if_neg hk).symm.trans HGE.out))
          subst he
          clear hk
          have hoo := HG2.out
          subst hoo
          go_wp2
          exact get_out (cs := #[.int .i64 v'.1, .string v'.2]) (g := w.heap.size) rfl rfl rfl ((HX.out.set_ 0 _).set_ 1 _) ⟨rfl, (HBW.out.setCell (p := ⟨w.heap.size, 0, none⟩) (Nat.le_refl _) _).setCell (p := ⟨w.heap.size, 1, none⟩) (Nat.le_refl _) _⟩
        · have HG2 := Lib.hid ((if_neg he).symm.trans ((if_neg hk).symm.trans HGE.out))
          have heb : (k.toList == k'.toList) = false := by rw [keq]; exact decide_eq_false he
          clear hk he
          go_wp2_with fail
          go_round
          case rel => exact ⟨r, _, rfl, HR.out, HG2.out⟩
          case measure => rw [HM.out, HRM.out]; omega
end Go.Proofs.Ythcjbljkokflgaa.OC
/- Maps over trees (values: Int × ByteArray): At; what a call leaves; Put, Del by lists. -/
namespace Go.Proofs.Ythcjbljkokflgaa.OC
open Go.RowKit
open Go.Lib
set_option linter.unusedVariables false
set_option linter.unusedSimpArgs false
set_option maxRecDepth 100000
/-- What a call on a map leaves as it was: all but its box. -/
structure Ko (w w' : World) (g : Nat) : Prop where
  os : w'.os = w.os
  tape : w'.tape = w.tape
  output : w'.output = w.output
  size : w.heap.size ≤ w'.heap.size
  block : ∀ j, j < w.heap.size → j ≠ g → w'.heap[j]? = w.heap[j]?
theorem Ko.of {w w' : World} {g : Nat} (h : Below w.heap.size w w') : Ko w w' g := ⟨h.os, h.tape, h.output, h.size, fun j hj _ => h.block j hj⟩
theorem Ko.trans {a b c : World} {g : Nat} (h : Ko a b g) (k : Ko b c g) : Ko a c g := ⟨k.os.trans h.os, k.tape.trans h.tape, k.output.trans h.output, Nat.le_trans h.size k.size, fun j hj hn => (k.block j (Nat.lt_of_lt_of_le hj h.size) hn).trans (h.block j hj hn)⟩
/-- A map's root is another tree. -/
theorem root_set {w w1 : World} {g : Nat} {t' : T} {p p1 : Option Addr} (hb : Blk w g 105 #[.pointer p]) (h1 : Below w.heap.size w w1) (ht : IsT w1 t' p1) : Mt (w1.setCell ⟨g, 0, none⟩ (.pointer p1)) g t' ∧ Ko w (w1.setCell ⟨g, 0, none⟩ (.pointer p1)) g := by
  have hb1 := hb.below h1 hb.lt
  refine ⟨⟨p1, hb1.set_ 0 _, ht.keep (KeepN.set hb1 (by decide) 0 _)⟩, ⟨h1.os, h1.tape, h1.output, ?_, fun j hj hn => (Below.heap_setCell w1 ⟨g, 0, none⟩ _ j hn).trans (h1.block j hj)⟩⟩
  have := h1.size
  simpa [World.setCell] using this
theorem put_map {w : World} {g : Nat} {t : T} (h : Mt w g t) (hs : t.size ≤ 40000) (k : ByteArray) (v : Int × ByteArray) : Calls Try.prog 43 #[.pointer (some ⟨g, 0, none⟩), .string k, .agg #[.int .i64 v.1, .string v.2]] w fun e w' => e = .returned (.bool (decide (t.size < (Tr.put k v t).size))) ∧ Mt w' g (Tr.put k v t) ∧ Ko w w' g := by
  obtain ⟨W, hW⟩ : ∃ W, w.alloc (.cells #[.int .i64 v.1, .string v.2] 68) = W := ⟨_, rfl⟩
  have HBW := Lib.hid (show Below w.heap.size w W from hW ▸ (Below.refl _ w).alloc (Nat.le_refl _) _)
  have HX := Lib.hid (show Blk W w.heap.size 68 #[.int .i64 v.1, .string v.2] from hW ▸ Blk.new w 68 _)
  replace h := h.below HBW.out
  have HLN := Lib.hid (len_any h)
  obtain ⟨p, h1, h2⟩ := h
  have c0 : W.cell? ⟨g, 0, none⟩ = some (.pointer p) := h1.cell 0
  have x0 : W.cell? ⟨w.heap.size, 0, none⟩ = some (.int .i64 v.1) := HX.out.cell 0
  have x1 : W.cell? ⟨w.heap.size, 1, none⟩ = some (.string v.2) := HX.out.cell 1
  have HB := Lib.hid h1
  have HP := Lib.hid (put_any k v (h2.keep (KeepN.drew W)) (by omega))
  obtain ⟨t', ht'⟩ : ∃ t', Tr.put k v t = t' := ⟨_, rfl⟩
  rw [ht'] at HP ⊢
  obtain ⟨n, hn⟩ : ∃ n, t.size = n := ⟨_, rfl⟩
  rw [hn] at HLN ⊢
  obtain ⟨m, hm⟩ : ∃ m, t'.size = m := ⟨_, rfl⟩
  have HM := Lib.hid hm
  rw [hm]
  clear h1 h2 ht' hn hm
  go_enter Try.func43, Try.ntmps43
  go_wp2_with fail
  try rw [hW]
  refine HLN.out.mono ?_
  rintro _ wz ⟨rfl, hw0⟩
  replace hw0 := hw0.symm
  subst hw0
  go_wp2_with fail
  have e0 : W.drew.cell? ⟨g, 0, none⟩ = some (.pointer p) := c0
  have e1 : W.drew.cell? ⟨w.heap.size, 0, none⟩ = some (.int .i64 v.1) := x0
  have e2 : W.drew.cell? ⟨w.heap.size, 1, none⟩ = some (.string v.2) := x1
  go_region_with (
           go_at_call 59
           (with_reducible refine HP.out.mono ?_)
           clear HP
           rintro _ w1 ⟨p1, rfl, ht1, hb1⟩
           have BL1 := Lib.hid (show Below W.heap.size W w1 from ((Below.refl _ W).drew).trans hb1)
           have HR := Lib.hid (root_set HB.out BL1.out ht1)
           have HB1 := Lib.hid (HB.out.below BL1.out HB.out.lt)
           have d0 := HB1.out.cell 0
           have f0 := HB1.out.frozen 0
           clear ht1 hb1)
  all_goals (
    go_wp2_with fail
    refine (len_any HR.out.1).mono ?_
    rintro _ wz ⟨rfl, hw0⟩
    replace hw0 := hw0.symm
    subst hw0
    rw [HM.out]
    go_wp2
    go_ret
    exact ⟨by first | rfl | (congr 2; simp) | congr 2, HR.out.1, (Ko.of HBW.out).trans HR.out.2⟩)
theorem del_map {w : World} {g : Nat} {t : T} (h : Mt w g t) (hs : t.size ≤ 40000) (k : ByteArray) : Calls Try.prog 42 #[.pointer (some ⟨g, 0, none⟩), .string k] w fun e w' => e = .returned (.bool (decide ((Tr.del t k).size < t.size))) ∧ Mt w' g (Tr.del t k) ∧ Ko w w' g := by
  have HLN := Lib.hid (len_any h)
  obtain ⟨p, h1, h2⟩ := h
  have c0 : w.cell? ⟨g, 0, none⟩ = some (.pointer p) := h1.cell 0
  have HB := Lib.hid h1
  have HP := Lib.hid (del_any t k h2 (by omega))
  obtain ⟨t', ht'⟩ : ∃ t', Tr.del t k = t' := ⟨_, rfl⟩
  rw [ht'] at HP ⊢
  obtain ⟨n, hn⟩ : ∃ n, t.size = n := ⟨_, rfl⟩
  rw [hn] at HLN ⊢
  obtain ⟨m, hm⟩ : ∃ m, t'.size = m := ⟨_, rfl⟩
  have HM := Lib.hid hm
  rw [hm]
  clear h1 h2 ht' hn hm
  go_enter Try.func42, Try.ntmps42
  go_wp2_with fail
  refine HLN.out.mono ?_
  rintro _ wz ⟨rfl, hw0⟩
  replace hw0 := hw0.symm
  subst hw0
  go_wp2_with fail
  refine HP.out.mono ?_
  rintro _ w1 ⟨p1, rfl, ht1, hb1⟩
  have HR := Lib.hid (root_set HB.out hb1 ht1)
  have b1 := HB.out.below hb1 HB.out.lt
  have d0 := b1.cell 0
  have f0 := b1.frozen 0
  clear ht1 hb1 b1
  go_wp2_with fail
  refine (len_any HR.out.1).mono ?_
  rintro _ wz ⟨rfl, hw0⟩
  replace hw0 := hw0.symm
  subst hw0
  rw [HM.out]
  go_wp2
  go_ret
  exact ⟨by first | rfl | (congr 2; simp) | congr 2, HR.out.1, HR.out.2⟩
theorem new_map (w : World) : Calls Try.prog 39 #[] w fun e w' => ∃ g, e = .returned (.pointer (some ⟨g, 0, none⟩)) ∧ Mt w' g .nil ∧ Below w.heap.size w w' ∧ w.heap.size ≤ g := by
  go_enter Try.func39, Try.ntmps39
  go_wp2
  go_ret
  exact ⟨w.heap.size, rfl, ⟨none, Blk.new w 105 _, rfl⟩, (Below.refl _ w).alloc (Nat.le_refl _) _, Nat.le_refl _⟩
end Go.Proofs.Ythcjbljkokflgaa.OC
/- Maps over trees (values: Int × ByteArray), told by rising lists. -/
namespace Go.Proofs.Ythcjbljkokflgaa.OC
open Go.RowKit
open Go.Lib
set_option linter.unusedVariables false
set_option linter.unusedSimpArgs false
set_option maxRecDepth 100000
def Om (w : World) (g : Nat) (L : List (ByteArray × Int × ByteArray)) : Prop := ∃ t, Mt w g t ∧ t.ino = L ∧ Srt L
section
variable {w w' : World} {g : Nat} {L : List (ByteArray × Int × ByteArray)}
theorem Om.lt (h : Om w g L) : g < w.heap.size := by
  obtain ⟨t, ⟨p, h, _⟩, _⟩ := h
  exact h.lt
theorem Om.below (h : Om w g L) (hb : Below w.heap.size w w') : Om w' g L := by
  obtain ⟨t, h1, h2⟩ := h
  exact ⟨t, h1.below hb, h2⟩
/-- Its box and all nodes are as they were. -/
theorem Om.keep (h : Om w g L) (hg : w'.heap[g]? = w.heap[g]?) (hk : KeepN w w') : Om w' g L := by
  obtain ⟨t, ⟨p, h1, h3⟩, h2⟩ := h
  exact ⟨t, ⟨p, hg.trans h1, h3.keep hk⟩, h2⟩
theorem Om.box (h : Om w g L) : ∃ p, Blk w g 105 #[.pointer p] := by
  obtain ⟨t, ⟨p, h1, _⟩, _⟩ := h
  exact ⟨p, h1⟩
theorem om_new (w : World) : Calls Try.prog 39 #[] w fun e w' => ∃ g, e = .returned (.pointer (some ⟨g, 0, none⟩)) ∧ Om w' g [] ∧ Below w.heap.size w w' ∧ w.heap.size ≤ g := by
  refine (new_map w).mono ?_
  rintro _ w' ⟨g, rfl, h1, h2, h3⟩
  exact ⟨g, rfl, ⟨_, h1, rfl, List.Pairwise.nil⟩, h2, h3⟩
theorem om_len (h : Om w g L) : Calls Try.prog 57 #[.pointer (some ⟨g, 0, none⟩)] w fun e w' => e = .returned (.int .i64 (L.length : Int)) ∧ w' = w := by
  obtain ⟨t, h1, rfl, h2⟩ := h
  rw [← Tr.size_ino]
  exact len_any h1
theorem om_get (h : Om w g L) (k : ByteArray) (o : Option (Int × ByteArray)) (ho : getL k L = o) : Calls Try.prog 41 #[.pointer (some ⟨g, 0, none⟩), .string k] w fun e w' => e = .returned (.tuple #[ov o, .bool o.isSome]) ∧ Below w.heap.size w w' := by
  subst ho
  obtain ⟨t, h1, rfl, h2⟩ := h
  rw [← Tr.get_ino h2]
  exact get_any h1 k
theorem om_put (h : Om w g L) (hn : L.length ≤ 40000) (k : ByteArray) (v : Int × ByteArray) (o : Bool) (ho : (getL k L).isSome = o) : Calls Try.prog 43 #[.pointer (some ⟨g, 0, none⟩), .string k, .agg #[.int .i64 v.1, .string v.2]] w fun e w' => e = .returned (.bool (!o)) ∧ Om w' g (insL k v L) ∧ Ko w w' g := by
  subst ho
  obtain ⟨t, h1, rfl, h2⟩ := h
  refine (put_map h1 (by rw [Tr.size_ino]; exact hn) k v).mono ?_
  rintro _ w' ⟨rfl, h3, h4⟩
  refine ⟨?_, ⟨_, h3, Tr.ino_put h2, h2.ins⟩, h4⟩
  congr 2
  rw [Tr.size_ino, Tr.size_ino, Tr.ino_put h2, insL_len h2]
  cases (getL k t.ino).isSome <;> simp
theorem om_del (h : Om w g L) (hn : L.length ≤ 40000) (k : ByteArray) (o : Bool) (ho : (getL k L).isSome = o) : Calls Try.prog 42 #[.pointer (some ⟨g, 0, none⟩), .string k] w fun e w' => e = .returned (.bool o) ∧ Om w' g (delL k L) ∧ Ko w w' g := by
  subst ho
  obtain ⟨t, h1, rfl, h2⟩ := h
  refine (del_map h1 (by rw [Tr.size_ino]; exact hn) k).mono ?_
  rintro _ w' ⟨rfl, h3, h4⟩
  refine ⟨?_, ⟨_, h3, Tr.ino_del h2 k, h2.del k⟩, h4⟩
  congr 2
  have := delL_len (k := k) h2
  rw [Tr.size_ino, Tr.size_ino, Tr.ino_del h2]
  cases hc : (getL k t.ino).isSome
  · rw [hc] at this
    simp at this ⊢
    omega
  · rw [hc] at this
    simp at this ⊢
    omega
end
end Go.Proofs.Ythcjbljkokflgaa.OC
namespace Go.Proofs.Ythcjbljkokflgaa.OC
open Go.RowKit
open Go.Lib
set_option linter.unusedVariables false
set_option linter.unusedSimpArgs false
set_option maxRecDepth 100000
open Go.Shelf
attribute [local go_sem] Oper.semAt_some
theorem room_of_none {F : Fence} (hd : F.depth = none) (k : Nat) : F.room k := fun d h => by rw [hd] at h; cases h
theorem RoundIn_anyDepth {F : Fence} (hd : F.depth = none) {m m' : Nat} {P : Program} {l : Nat} {f : FuncId} {tmps : Array Value} {assign body : Code} {w : World} {R : Ending → World → Prop}
    (h : RoundIn F m P l f tmps assign body w R) : RoundIn F m' P l f tmps assign body w R := ⟨h.1, fun c cs _ => h.2 c cs (room_of_none hd _)⟩
theorem YieldAt_anyDepth {F : Fence} (hd : F.depth = none) {m : Nat} (m' : Nat) {P : Program} {l : Nat} {args : Array Value} {W : World} {R : Ending → World → Prop} (h : YieldAt F m P l args W R) : YieldAt F m' P l args W R := by
  obtain ⟨fn, tmps, assign, body, hy, hR⟩ := h
  exact ⟨fn, tmps, assign, body, hy, RoundIn_anyDepth hd hR⟩
abbrev It := ByteArray × Int × ByteArray
def enI (x : It) : Array Value := #[.string x.1, .agg #[.int .i64 x.2.1, .string x.2.2]]
theorem hasPre_lib (a b : ByteArray) (w : World) (ha : a.size ≤ 1000000) (hb : b.size ≤ 1000000) : Calls Try.prog 93 #[.string a, .string b] w fun e w' => e = .returned (.bool (preB b a)) ∧ w' = w := by
  have HE := Lib.hid (show preB b a = (decide (b.size ≤ a.size) && ((a.extract 0 b.size).toList == b.toList)) from rfl)
  by_cases h : b.size ≤ a.size
  · have hI : (a.size : Int) ≥ (b.size : Int) := by omega
    have hE := HE.out
    rw [decide_eq_true h] at hE
    have HE2 := Lib.hid hE
    clear hE h
    go_enter Try.func93, Try.ntmps93
    go_wp2
    go_ret
    rw [HE2.out]
    exact ⟨rfl, rfl⟩
  · have hI : ¬ (a.size : Int) ≥ (b.size : Int) := by omega
    have hE := HE.out
    rw [decide_eq_false h] at hE
    have HE2 := Lib.hid hE
    clear hE h
    go_enter Try.func93, Try.ntmps93
    go_wp2
    go_ret
    rw [HE2.out]
    exact ⟨rfl, rfl⟩
theorem hasPre_any (a b : ByteArray) (w : World) (ha : a.size ≤ 1000000) (hb : b.size ≤ 1000000) : Calls Try.prog 88 #[.string a, .string b] w fun e w' => e = .returned (.bool (preB b a)) ∧ w' = w := by
  have H := Lib.hid (hasPre_lib a b w ha hb)
  go_enter Try.func88, Try.ntmps88
  go_wp2_with fail
  refine H.out.mono ?_
  rintro _ wz ⟨rfl, hw0⟩
  replace hw0 := hw0.symm
  subst hw0
  go_wp2
  go_ret
  exact ⟨rfl, rfl⟩
end Go.Proofs.Ythcjbljkokflgaa.OC
