/- Maps over trees (values: Int): under, inside a fence. -/
import Derived.Test.YthcjbljkokflgaaFah
import Derived.RangeFuncNested
import Derived.RangeFuncBound
import Derived.RangeFuncCalls
import Derived.RangeFuncLeaves
import Derived.Shelf.Abstract
import Derived.Shelf.RegionOpen
import Derived.Stop.RegionWithIn
import Derived.OwnWalkIn
import Derived.TacticsInMore
import Derived.LoopNIn
import Derived.LoopIn
set_option linter.unnecessarySimpa false
/- Trees in memory (values: Int): turnLeft. -/
namespace Go.Proofs.Ythcjbljkokflgaa.OI
open Go.RowKit
open Go.Lib
set_option linter.unusedVariables false
set_option linter.unusedSimpArgs false
set_option maxRecDepth 100000
set_option maxHeartbeats 8000000 in
theorem turnL_any {w : World} {l r : T} {pl pr : Option Addr} {b : Nat} {k : ByteArray} {v : Int} (hl : IsT w l pl) (hn : Nd w b k v) (hr : IsT w r pr) (hs : l.size + r.size ≤ 100000) (h2 : 2 ≤ r.size) :
    Calls Try.prog 95 #[.pointer pl, .pointer (some ⟨b, 0, none⟩), .pointer pr] w fun e w' => ∃ p, e = .returned (.pointer p) ∧ IsT w' (Tr.turnL l k v r) p ∧ Below w.heap.size w w' := by
  cases r with
  | nil => exact absurd h2 (by show ¬ 2 ≤ 0; omega)
  | node rk rv rl rr =>
    have HL := Lib.hid hl
    have HN := Lib.hid hn
    obtain ⟨rb, prl, prr, rfl, hB, hrl, hrr⟩ := hr
    have cI : w.cell? ⟨rb, 3, none⟩ = some (.pointer prl) := hB.cell 3
    have cO : w.cell? ⟨rb, 4, none⟩ = some (.pointer prr) := hB.cell 4
    have HS1 := Lib.hid (size_any (hrl.keep (KeepN.drew w)))
    have HS2 := Lib.hid (size_any (hrr.keep (KeepN.drew w)))
    have HI := Lib.hid hrl
    have HO := Lib.hid hrr
    have HB := Lib.hid hB
    obtain ⟨m, hm⟩ : ∃ m, rl.size = m := ⟨_, rfl⟩
    obtain ⟨n, hn2⟩ : ∃ n, rr.size = n := ⟨_, rfl⟩
    have HM := Lib.hid hm
    have HNN := Lib.hid hn2
    have hs' : l.size + (m + 1 + n) ≤ 100000 := by rw [← hm, ← hn2]; exact hs
    have h2' : 2 ≤ m + 1 + n := by rw [← hm, ← hn2]; exact h2
    rw [hm] at HS1
    rw [hn2] at HS2
    have i1 : IntKind.i64.wrap (2 * (n : Int)) = 2 * (n : Int) := IntWalk.i64_in _ (by omega)
    have cOd : w.drew.cell? ⟨rb, 4, none⟩ = some (.pointer prr) := cO
    clear hl hn hB hrl hrr hm hn2 hs h2
    go_enter Try.func95, Try.ntmps95
    go_wp2_with fail
    go_region_held3 (fun w' => w'.cell? ⟨rb, 4, none⟩ = some (.pointer prr)) (first | exact cOd) (first
      | (go_at_call 81
         (with_reducible refine HS1.out.mono ?_)
         clear HS1
         rintro _ wz ⟨rfl, hw0⟩
         replace hw0 := hw0.symm
         subst hw0)
      | (go_at_call 81
         (with_reducible refine HS2.out.mono ?_)
         clear HS2
         rintro _ wz ⟨rfl, hw0⟩
         replace hw0 := hw0.symm
         subst hw0)
      | fail)
    all_goals (
      by_cases hc : 2 * n ≤ m
      · cases rl with
        | nil =>
          exfalso
          have : 0 = m := HM.out
          omega
        | node ik iv il ir =>
          have HT := Lib.hid (show Tr.turnL l k v (.node rk rv (.node ik iv il ir) rr) = .node ik iv (.node k v l il) (.node rk rv ir rr) from by unfold Tr.turnL; simp only; rw [if_pos (by rw [HM.out, HNN.out]; exact hc)])
          obtain ⟨ib, pil, pir, rfl, hib, hil, hir⟩ := HI.out
          have hsi : il.size + 1 + ir.size = m := HM.out
          have hcI : (m : Int) ≥ 2 * (n : Int) := by omega
          have hj := join_any (HL.out.keep (KeepN.drew2 w)) (HN.out.keep (KeepN.drew2 w)) (hil.keep (KeepN.drew2 w)) (by omega)
          have HJ1 := Lib.hid hj
          have HIL := Lib.hid hil
          have HIR := Lib.hid hir
          have HIB := Lib.hid hib
          have e1 : w.drew.drew.cell? ⟨ib, 3, none⟩ = some (.pointer pil) := hib.cell 3
          have e2 : w.drew.drew.cell? ⟨ib, 4, none⟩ = some (.pointer pir) := hib.cell 4
          clear hib hil hir hj cI cO cOd
          go_wp2_with fail
          go_region_held3 (fun w' => w'.cell? ⟨ib, 3, none⟩ = some (.pointer pil) ∧ w'.cell? ⟨ib, 4, none⟩ = some (.pointer pir) ∧ w'.cell? ⟨rb, 4, none⟩ = some (.pointer prr)) (first | exact ⟨e1, e2, HB.out.cell 4⟩ | exact ⟨HIB1.out.cell 3, HIB1.out.cell 4, HB1.out.cell 4⟩ | exact ⟨HIB2.out.cell 3, HIB2.out.cell 4, HB2.out.cell 4⟩ | exact ⟨HIB3.out.cell 3, HIB3.out.cell 4, HB3.out.cell 4⟩) (first
            | (go_at_call 94
               (with_reducible refine HJ1.out.mono ?_)
               clear HJ1
               rintro _ w1 ⟨p1, rfl, ht1, hb1⟩
               have K1 := Lib.hid (KeepN.of (((Below.refl _ w).drew.drew).trans hb1))
               have HB1 := Lib.hid (K1.out _ _ HB.out)
               have HIB1 := Lib.hid (K1.out _ _ HIB.out)
               have HT1 := Lib.hid ht1
               have BL1 := Lib.hid (show Below w.heap.size w w1 from ((Below.refl _ w).drew.drew).trans hb1)
               have HJ2 := Lib.hid (join_any (b := rb) (HIR.out.keep K1.out) (show Nd w1 rb rk rv from ⟨_, _, _, HB1.out⟩) (HO.out.keep K1.out) (by rw [HNN.out]; omega))
               clear ht1 hb1)
            | (go_at_call 94
               (with_reducible refine HJ2.out.mono ?_)
               clear HJ2
               rintro _ w2 ⟨p2, rfl, ht2, hb2⟩
               have K2 := Lib.hid (KeepN.of hb2)
               have HB2 := Lib.hid (K2.out _ _ HB1.out)
               have HIB2 := Lib.hid (K2.out _ _ HIB1.out)
               have BL2 := Lib.hid (BL1.out.trans (hb2.mono BL1.out.size))
               have HJ3 := Lib.hid (join_any (b := ib) (HT1.out.keep K2.out) (show Nd w2 ib ik iv from ⟨_, _, _, HIB2.out⟩) ht2 (by show l.size + 1 + il.size + (ir.size + 1 + rr.size) ≤ 1000000; rw [HNN.out]; omega))
               clear ht2 hb2)
            | (go_at_call 94
               (with_reducible refine HJ3.out.mono ?_)
               clear HJ3
               rintro _ w3 ⟨p3, rfl, ht3, hb3⟩
               have K3 := Lib.hid (KeepN.of hb3)
               have HB3 := Lib.hid (K3.out _ _ HB2.out)
               have HIB3 := Lib.hid (K3.out _ _ HIB2.out)
               have BL3 := Lib.hid (BL2.out.trans (hb3.mono BL2.out.size))
               have HT3 := Lib.hid ht3
               clear ht3 hb3)
            | fail)
          all_goals (
            go_wp2
            go_ret
            exact ⟨_, rfl, by rw [HT.out]; exact HT3.out, BL3.out⟩)
      · have HT := Lib.hid (show Tr.turnL l k v (.node rk rv rl rr) = .node rk rv (.node k v l rl) rr from by unfold Tr.turnL; simp only; rw [if_neg (by rw [HM.out, HNN.out]; exact hc)])
        have hcI : ¬ (m : Int) ≥ 2 * (n : Int) := by omega
        have hj := join_any (HL.out.keep (KeepN.drew2 w)) (HN.out.keep (KeepN.drew2 w)) (HI.out.keep (KeepN.drew2 w)) (by rw [HM.out]; omega)
        have HJ1 := Lib.hid hj
        have e1 : w.drew.drew.cell? ⟨rb, 3, none⟩ = some (.pointer prl) := cI
        clear hj cI cO cOd
        go_wp2_with fail
        go_region_held3 (fun w' => w'.cell? ⟨rb, 3, none⟩ = some (.pointer prl) ∧ w'.cell? ⟨rb, 4, none⟩ = some (.pointer prr)) (first | exact ⟨e1, HB.out.cell 4⟩ | exact ⟨HB1.out.cell 3, HB1.out.cell 4⟩ | exact ⟨HB2.out.cell 3, HB2.out.cell 4⟩) (first
          | (go_at_call 94
             (with_reducible refine HJ1.out.mono ?_)
             clear HJ1
             rintro _ w1 ⟨p1, rfl, ht1, hb1⟩
             have K1 := Lib.hid (KeepN.of (((Below.refl _ w).drew.drew).trans hb1))
             have HB1 := Lib.hid (K1.out _ _ HB.out)
             have BL1 := Lib.hid (show Below w.heap.size w w1 from ((Below.refl _ w).drew.drew).trans hb1)
             have HJ2 := Lib.hid (join_any (b := rb) ht1 (show Nd w1 rb rk rv from ⟨_, _, _, HB1.out⟩) (HO.out.keep K1.out) (by show l.size + 1 + rl.size + rr.size ≤ 1000000; rw [HNN.out, HM.out]; omega))
             clear ht1 hb1)
          | (go_at_call 94
             (with_reducible refine HJ2.out.mono ?_)
             clear HJ2
             rintro _ w2 ⟨p2, rfl, ht2, hb2⟩
             have K2 := Lib.hid (KeepN.of hb2)
             have HB2 := Lib.hid (K2.out _ _ HB1.out)
             have BL2 := Lib.hid (BL1.out.trans (hb2.mono BL1.out.size))
             have HT2 := Lib.hid ht2
             clear ht2 hb2)
          | fail)
        all_goals (
          go_wp2
          go_ret
          exact ⟨_, rfl, by rw [HT.out]; exact HT2.out, BL2.out⟩))
end Go.Proofs.Ythcjbljkokflgaa.OI
/- Trees in memory (values: Int): turnRight. -/
namespace Go.Proofs.Ythcjbljkokflgaa.OI
open Go.RowKit
open Go.Lib
set_option linter.unusedVariables false
set_option linter.unusedSimpArgs false
set_option maxRecDepth 100000
set_option maxHeartbeats 8000000 in
theorem turnR_any {w : World} {l r : T} {pl pr : Option Addr} {b : Nat} {k : ByteArray} {v : Int} (hl : IsT w l pl) (hn : Nd w b k v) (hr : IsT w r pr) (hs : l.size + r.size ≤ 100000) (h2 : 2 ≤ l.size) :
    Calls Try.prog 96 #[.pointer pl, .pointer (some ⟨b, 0, none⟩), .pointer pr] w fun e w' => ∃ p, e = .returned (.pointer p) ∧ IsT w' (Tr.turnR l k v r) p ∧ Below w.heap.size w w' := by
  cases l with
  | nil => exact absurd h2 (by show ¬ 2 ≤ 0; omega)
  | node lk lv ll lr =>
    have HR := Lib.hid hr
    have HN := Lib.hid hn
    obtain ⟨lb, pll, plr, rfl, hB, hll, hlr⟩ := hl
    have cI : w.cell? ⟨lb, 4, none⟩ = some (.pointer plr) := hB.cell 4
    have cO : w.cell? ⟨lb, 3, none⟩ = some (.pointer pll) := hB.cell 3
    have HS1 := Lib.hid (size_any (hlr.keep (KeepN.drew w)))
    have HS2 := Lib.hid (size_any (hll.keep (KeepN.drew w)))
    have HI := Lib.hid hlr
    have HO := Lib.hid hll
    have HB := Lib.hid hB
    obtain ⟨m, hm⟩ : ∃ m, lr.size = m := ⟨_, rfl⟩
    obtain ⟨n, hn2⟩ : ∃ n, ll.size = n := ⟨_, rfl⟩
    have HM := Lib.hid hm
    have HNN := Lib.hid hn2
    have hs' : (n + 1 + m) + r.size ≤ 100000 := by rw [← hm, ← hn2]; exact hs
    have h2' : 2 ≤ n + 1 + m := by rw [← hm, ← hn2]; exact h2
    rw [hm] at HS1
    rw [hn2] at HS2
    have i1 : IntKind.i64.wrap (2 * (n : Int)) = 2 * (n : Int) := IntWalk.i64_in _ (by omega)
    have cOd : w.drew.cell? ⟨lb, 3, none⟩ = some (.pointer pll) := cO
    clear hr hn hB hll hlr hm hn2 hs h2
    go_enter Try.func96, Try.ntmps96
    go_wp2_with fail
    go_region_held3 (fun w' => w'.cell? ⟨lb, 3, none⟩ = some (.pointer pll)) (first | exact cOd) (first
      | (go_at_call 81
         (with_reducible refine HS1.out.mono ?_)
         clear HS1
         rintro _ wz ⟨rfl, hw0⟩
         replace hw0 := hw0.symm
         subst hw0)
      | (go_at_call 81
         (with_reducible refine HS2.out.mono ?_)
         clear HS2
         rintro _ wz ⟨rfl, hw0⟩
         replace hw0 := hw0.symm
         subst hw0)
      | fail)
    all_goals (
      by_cases hc : 2 * n ≤ m
      · cases lr with
        | nil =>
          exfalso
          have : 0 = m := HM.out
          omega
        | node ik iv il ir =>
          have HT := Lib.hid (show Tr.turnR (.node lk lv ll (.node ik iv il ir)) k v r = .node ik iv (.node lk lv ll il) (.node k v ir r) from by unfold Tr.turnR; simp only; rw [if_pos (by rw [HM.out, HNN.out]; exact hc)])
          obtain ⟨ib, pil, pir, rfl, hib, hil, hir⟩ := HI.out
          have hsi : il.size + 1 + ir.size = m := HM.out
          have hcI : (m : Int) ≥ 2 * (n : Int) := by omega
          have hj := join_any (b := lb) (HO.out.keep (KeepN.drew2 w)) (show Nd w.drew.drew lb lk lv from ⟨_, _, _, HB.out⟩) (hil.keep (KeepN.drew2 w)) (by rw [HNN.out]; omega)
          have HJ1 := Lib.hid hj
          have HIL := Lib.hid hil
          have HIR := Lib.hid hir
          have HIB := Lib.hid hib
          have e1 : w.drew.drew.cell? ⟨ib, 3, none⟩ = some (.pointer pil) := hib.cell 3
          have e2 : w.drew.drew.cell? ⟨ib, 4, none⟩ = some (.pointer pir) := hib.cell 4
          clear hib hil hir hj cI cO cOd
          go_wp2_with fail
          go_region_held3 (fun w' => w'.cell? ⟨ib, 3, none⟩ = some (.pointer pil) ∧ w'.cell? ⟨ib, 4, none⟩ = some (.pointer pir) ∧ w'.cell? ⟨lb, 3, none⟩ = some (.pointer pll)) (first | exact ⟨e1, e2, HB.out.cell 3⟩ | exact ⟨HIB1.out.cell 3, HIB1.out.cell 4, HB1.out.cell 3⟩ | exact ⟨HIB2.out.cell 3, HIB2.out.cell 4, HB2.out.cell 3⟩ | exact ⟨HIB3.out.cell 3, HIB3.out.cell 4, HB3.out.cell 3⟩) (first
            | (go_at_call 94
               (with_reducible refine HJ1.out.mono ?_)
               clear HJ1
               rintro _ w1 ⟨p1, rfl, ht1, hb1⟩
               have K1 := Lib.hid (KeepN.of (((Below.refl _ w).drew.drew).trans hb1))
               have HB1 := Lib.hid (K1.out _ _ HB.out)
               have HIB1 := Lib.hid (K1.out _ _ HIB.out)
               have HT1 := Lib.hid ht1
               have BL1 := Lib.hid (show Below w.heap.size w w1 from ((Below.refl _ w).drew.drew).trans hb1)
               have HJ2 := Lib.hid (join_any (HIR.out.keep K1.out) (HN.out.keep K1.out) (HR.out.keep K1.out) (by omega))
               clear ht1 hb1)
            | (go_at_call 94
               (with_reducible refine HJ2.out.mono ?_)
               clear HJ2
               rintro _ w2 ⟨p2, rfl, ht2, hb2⟩
               have K2 := Lib.hid (KeepN.of hb2)
               have HB2 := Lib.hid (K2.out _ _ HB1.out)
               have HIB2 := Lib.hid (K2.out _ _ HIB1.out)
               have BL2 := Lib.hid (BL1.out.trans (hb2.mono BL1.out.size))
               have HJ3 := Lib.hid (join_any (b := ib) (HT1.out.keep K2.out) (show Nd w2 ib ik iv from ⟨_, _, _, HIB2.out⟩) ht2 (by show ll.size + 1 + il.size + (ir.size + 1 + r.size) ≤ 1000000; rw [HNN.out]; omega))
               clear ht2 hb2)
            | (go_at_call 94
               (with_reducible refine HJ3.out.mono ?_)
               clear HJ3
               rintro _ w3 ⟨p3, rfl, ht3, hb3⟩
               have K3 := Lib.hid (KeepN.of hb3)
               have HB3 := Lib.hid (K3.out _ _ HB2.out)
               have HIB3 := Lib.hid (K3.out _ _ HIB2.out)
               have BL3 := Lib.hid (BL2.out.trans (hb3.mono BL2.out.size))
               have HT3 := Lib.hid ht3
               clear ht3 hb3)
            | fail)
          all_goals (
            go_wp2
            go_ret
            exact ⟨_, rfl, by rw [HT.out]; exact HT3.out, BL3.out⟩)
      · have HT := Lib.hid (show Tr.turnR (.node lk lv ll lr) k v r = .node lk lv ll (.node k v lr r) from by unfold Tr.turnR; simp only; rw [if_neg (by rw [HM.out, HNN.out]; exact hc)])
        have hcI : ¬ (m : Int) ≥ 2 * (n : Int) := by omega
        have hj := join_any (HI.out.keep (KeepN.drew2 w)) (HN.out.keep (KeepN.drew2 w)) (HR.out.keep (KeepN.drew2 w)) (by rw [HM.out]; omega)
        have HJ1 := Lib.hid hj
        have e1 : w.drew.drew.cell? ⟨lb, 4, none⟩ = some (.pointer plr) := cI
        clear hj cI cO cOd
        go_wp2_with fail
        go_region_held3 (fun w' => w'.cell? ⟨lb, 3, none⟩ = some (.pointer pll) ∧ w'.cell? ⟨lb, 4, none⟩ = some (.pointer plr)) (first | exact ⟨HB.out.cell 3, e1⟩ | exact ⟨HB1.out.cell 3, HB1.out.cell 4⟩ | exact ⟨HB2.out.cell 3, HB2.out.cell 4⟩) (first
          | (go_at_call 94
             (with_reducible refine HJ1.out.mono ?_)
             clear HJ1
             rintro _ w1 ⟨p1, rfl, ht1, hb1⟩
             have K1 := Lib.hid (KeepN.of (((Below.refl _ w).drew.drew).trans hb1))
             have HB1 := Lib.hid (K1.out _ _ HB.out)
             have BL1 := Lib.hid (show Below w.heap.size w w1 from ((Below.refl _ w).drew.drew).trans hb1)
             have HJ2 := Lib.hid (join_any (b := lb) (HO.out.keep K1.out) (show Nd w1 lb lk lv from ⟨_, _, _, HB1.out⟩) ht1 (by show ll.size + (lr.size + 1 + r.size) ≤ 1000000; rw [HNN.out, HM.out]; omega))
             clear ht1 hb1)
          | (go_at_call 94
             (with_reducible refine HJ2.out.mono ?_)
             clear HJ2
             rintro _ w2 ⟨p2, rfl, ht2, hb2⟩
             have K2 := Lib.hid (KeepN.of hb2)
             have HB2 := Lib.hid (K2.out _ _ HB1.out)
             have BL2 := Lib.hid (BL1.out.trans (hb2.mono BL1.out.size))
             have HT2 := Lib.hid ht2
             clear ht2 hb2)
          | fail)
        all_goals (
          go_wp2
          go_ret
          exact ⟨_, rfl, by rw [HT.out]; exact HT2.out, BL2.out⟩))
end Go.Proofs.Ythcjbljkokflgaa.OI
/- Trees in memory (values: Int): balance. -/
namespace Go.Proofs.Ythcjbljkokflgaa.OI
open Go.RowKit
open Go.Lib
set_option linter.unusedVariables false
set_option linter.unusedSimpArgs false
set_option maxRecDepth 100000
set_option maxHeartbeats 4000000 in
theorem bal_any {w : World} {l r : T} {pl pr : Option Addr} {b : Nat} {k : ByteArray} {v : Int} (hl : IsT w l pl) (hn : Nd w b k v) (hr : IsT w r pr) (hs : l.size + r.size ≤ 100000) :
    Calls Try.prog 89 #[.pointer pl, .pointer (some ⟨b, 0, none⟩), .pointer pr] w fun e w' => ∃ p, e = .returned (.pointer p) ∧ IsT w' (Tr.bal l k v r) p ∧ Below w.heap.size w w' := by
  have HS1 := Lib.hid (size_any hl)
  have HS2 := Lib.hid (size_any hr)
  have HJ := Lib.hid (join_any hl hn hr (by omega))
  have HTL := Lib.hid (fun h => turnL_any hl hn hr hs h)
  have HTR := Lib.hid (fun h => turnR_any hl hn hr hs h)
  have HE := Lib.hid (show Tr.bal l k v r = if l.size + r.size < 2 then .node k v l r else if 3 * l.size < r.size then Tr.turnL l k v r else if 3 * r.size < l.size then Tr.turnR l k v r else .node k v l r from rfl)
  obtain ⟨X, hX⟩ : ∃ X, Tr.bal l k v r = X := ⟨_, rfl⟩
  rw [hX] at HE ⊢
  obtain ⟨m, hm⟩ : ∃ m, l.size = m := ⟨_, rfl⟩
  obtain ⟨n, hn2⟩ : ∃ n, r.size = n := ⟨_, rfl⟩
  rw [hm, hn2] at HE hs
  rw [hm] at HS1 HTR
  rw [hn2] at HS2 HTL
  have i0 : IntKind.i64.wrap ((m : Int) + (n : Int)) = (m : Int) + (n : Int) := IntWalk.i64_in _ (by omega)
  have i1 : IntKind.i64.wrap (3 * (m : Int)) = 3 * (m : Int) := IntWalk.i64_in _ (by omega)
  have i2 : IntKind.i64.wrap (3 * (n : Int)) = 3 * (n : Int) := IntWalk.i64_in _ (by omega)
  clear hl hn hr hX hm hn2
  go_enter Try.func89, Try.ntmps89
  go_wp2_with fail
  refine HS1.out.mono ?_
  rintro _ wz ⟨rfl, hw0⟩
  replace hw0 := hw0.symm
  subst hw0
  go_wp2_with fail
  refine HS2.out.mono ?_
  rintro _ wz ⟨rfl, hw0⟩
  replace hw0 := hw0.symm
  subst hw0
  by_cases h1 : m + n < 2
  · have hX := HE.out
    rw [if_pos h1] at hX
    have h1I : (m : Int) + (n : Int) < 2 := by omega
    have HX := Lib.hid hX
    clear hX
    go_wp2_with fail
    refine HJ.out.mono ?_
    rintro _ w1 ⟨p, rfl, ht, hb⟩
    have HT := Lib.hid ht
    have HB := Lib.hid hb
    clear ht hb
    go_wp2
    go_ret
    exact ⟨_, rfl, by rw [HX.out]; exact HT.out, HB.out⟩
  · have h1I : ¬ (m : Int) + (n : Int) < 2 := by omega
    by_cases h2 : 3 * m < n
    · have hX := HE.out
      rw [if_neg h1, if_pos h2] at hX
      have h2I : 3 * (m : Int) < (n : Int) := by omega
      have HX := Lib.hid hX
      have HJ2 := Lib.hid (HTL.out (by omega))
      clear hX
      go_wp2_with fail
      refine HJ2.out.mono ?_
      rintro _ w1 ⟨p, rfl, ht, hb⟩
      have HT := Lib.hid ht
      have HB := Lib.hid hb
      clear ht hb
      go_wp2
      go_ret
      exact ⟨_, rfl, by rw [HX.out]; exact HT.out, HB.out⟩
    · have h2I : ¬ 3 * (m : Int) < (n : Int) := by omega
      by_cases h3 : 3 * n < m
      · have hX := HE.out
        rw [if_neg h1, if_neg h2, if_pos h3] at hX
        have h3I : 3 * (n : Int) < (m : Int) := by omega
        have HX := Lib.hid hX
        have HJ2 := Lib.hid (HTR.out (by omega))
        clear hX
        go_wp2_with fail
        refine HJ2.out.mono ?_
        rintro _ w1 ⟨p, rfl, ht, hb⟩
        have HT := Lib.hid ht
        have HB := Lib.hid hb
        clear ht hb
        go_wp2
        go_ret
        exact ⟨_, rfl, by rw [HX.out]; exact HT.out, HB.out⟩
      · have hX := HE.out
        rw [if_neg h1, if_neg h2, if_neg h3] at hX
        have h3I : ¬ 3 * (n : Int) < (m : Int) := by omega
        have HX := Lib.hid hX
        clear hX
        go_wp2_with fail
        refine HJ.out.mono ?_
        rintro _ w1 ⟨p, rfl, ht, hb⟩
        have HT := Lib.hid ht
        have HB := Lib.hid hb
        clear ht hb
        go_wp2
        go_ret
        exact ⟨_, rfl, by rw [HX.out]; exact HT.out, HB.out⟩
end Go.Proofs.Ythcjbljkokflgaa.OI
/- Trees in memory (values: Int): put. -/
namespace Go.Proofs.Ythcjbljkokflgaa.OI
open Go.RowKit
open Go.Lib
set_option linter.unusedVariables false
set_option linter.unusedSimpArgs false
set_option maxRecDepth 100000
set_option maxHeartbeats 8000000 in
theorem put_any (k : ByteArray) (v : Int) : ∀ {t : T} {w : World} {p : Option Addr}, IsT w t p → t.size ≤ 50000 →
    Calls Try.prog 80 #[.pointer p, .string k, .int .i64 v] w fun e w' => ∃ p', e = .returned (.pointer p') ∧ IsT w' (Tr.put k v t) p' ∧ Below w.heap.size w w' := by
  intro t
  induction t with
  | nil =>
    intro w p h hs
    obtain rfl : p = none := h
    go_enter Try.func80, Try.ntmps80
    go_wp2
    go_ret
    exact ⟨_, rfl, ⟨w.heap.size, none, none, rfl, Blk.new w 138 _, rfl, rfl⟩, (Below.refl _ w).alloc (Nat.le_refl _) _⟩
  | node k' v' l r ihl ihr =>
    intro w p h hs
    obtain ⟨b, pl, pr, rfl, hB, hl, hr⟩ := h
    have hs' : l.size + 1 + r.size ≤ 50000 := hs
    have c0 : w.cell? ⟨b, 0, none⟩ = some (.string k') := hB.cell 0
    have c2 : w.cell? ⟨b, 2, none⟩ = some (.int .i64 ((l.size + 1 + r.size : Nat) : Int)) := hB.cell 2
    have c3 : w.cell? ⟨b, 3, none⟩ = some (.pointer pl) := hB.cell 3
    have c4 : w.cell? ⟨b, 4, none⟩ = some (.pointer pr) := hB.cell 4
    have e1 : w.drew.cell? ⟨b, 3, none⟩ = some (.pointer pl) := c3
    have e2 : w.drew.cell? ⟨b, 4, none⟩ = some (.pointer pr) := c4
    have HB := Lib.hid hB
    have HL := Lib.hid hl
    have HR := Lib.hid hr
    have hpl := Tr.size_put k v l
    have hpr := Tr.size_put k v r
    have IHL := Lib.hid (ihl (hl.keep (KeepN.drew w)) (by omega))
    have IHR := Lib.hid (ihr (hr.keep (KeepN.drew w)) (by omega))
    have HE := Lib.hid (show Tr.put k v (.node k' v' l r) = if klt k k' = true then Tr.bal (Tr.put k v l) k' v' r else if k = k' then .node k v l r else Tr.bal l k' v' (Tr.put k v r) from rfl)
    clear ihl ihr hB hl hr
    by_cases hk : klt k k' = true
    · have hkb : Op.bytesLess k.toList k'.toList = true := hk
      have HEE := Lib.hid (HE.out.trans (if_pos hk))
      have IH1 := IHL
      clear HE hk IHL IHR
      go_enter Try.func80, Try.ntmps80
      go_wp2_with fail
      go_region_held3 (fun w' => w'.cell? ⟨b, 3, none⟩ = some (.pointer pl) ∧ w'.cell? ⟨b, 4, none⟩ = some (.pointer pr)) (first | exact ⟨e1, e2⟩ | exact ⟨HB1.out.cell 3, HB1.out.cell 4⟩ | exact ⟨HB2.out.cell 3, HB2.out.cell 4⟩) (first
        | (go_at_call 80
           (with_reducible refine IH1.out.mono ?_)
           clear IH1
           rintro _ w1 ⟨p1, rfl, ht1, hb1⟩
           have K1 := Lib.hid (KeepN.of (((Below.refl _ w).drew).trans hb1))
           have HB1 := Lib.hid (K1.out _ _ HB.out)
           have BL1 := Lib.hid (show Below w.heap.size w w1 from ((Below.refl _ w).drew).trans hb1)
           have HJ2 := Lib.hid (bal_any (b := b) ht1 (show Nd w1 b k' v' from ⟨_, _, _, HB1.out⟩) (HR.out.keep K1.out) (by omega))
           clear ht1 hb1)
        | (go_at_call 89
           (with_reducible refine HJ2.out.mono ?_)
           clear HJ2
           rintro _ w2 ⟨p2, rfl, ht2, hb2⟩
           have K2 := Lib.hid (KeepN.of hb2)
           have HB2 := Lib.hid (K2.out _ _ HB1.out)
           have BL2 := Lib.hid (BL1.out.trans (hb2.mono BL1.out.size))
           have HT2 := Lib.hid ht2
           clear ht2 hb2)
        | fail)
      all_goals (
        go_wp2
        go_ret
        exact ⟨_, rfl, by rw [HEE.out]; exact HT2.out, BL2.out⟩)
    · have hkb : Op.bytesLess k.toList k'.toList = false := by have : klt k k' = false := by simpa using hk
                                                               exact this
      by_cases he : k = k'
      · have HEE := Lib.hid (HE.out.trans ((if_neg hk).trans (if_pos he)))
        subst he
        clear HE hk IHL IHR
        go_enter Try.func80, Try.ntmps80
        go_wp2_with fail
        go_region
        all_goals (
          go_wp2
          go_ret
          refine ⟨_, rfl, ?_, ?_⟩
          · rw [HEE.out]
            refine ⟨w.heap.size, pl, pr, rfl, ?_, HL.out.keep ?_, HR.out.keep ?_⟩
            · have hsz : ((l.size + 1 + r.size : Nat) : Int) = (l.size : Int) + 1 + (r.size : Int) := by omega
              rw [hsz]
              exact (Blk.new w 138 _).drew
            · exact KeepN.of (((Below.refl _ w).alloc (Nat.le_refl _) _).drew)
            · exact KeepN.of (((Below.refl _ w).alloc (Nat.le_refl _) _).drew)
          · exact ((Below.refl _ w).alloc (Nat.le_refl _) _).drew)
      · have HEE := Lib.hid (HE.out.trans ((if_neg hk).trans (if_neg he)))
        have heb : (k.toList == k'.toList) = false := by rw [keq]; exact decide_eq_false he
        have IH1 := IHR
        clear HE hk he IHL IHR
        go_enter Try.func80, Try.ntmps80
        go_wp2_with fail
        go_region_held3 (fun w' => w'.cell? ⟨b, 3, none⟩ = some (.pointer pl) ∧ w'.cell? ⟨b, 4, none⟩ = some (.pointer pr)) (first | exact ⟨e1, e2⟩ | exact ⟨HB1.out.cell 3, HB1.out.cell 4⟩ | exact ⟨HB2.out.cell 3, HB2.out.cell 4⟩) (first
          | (go_at_call 80
             (with_reducible refine IH1.out.mono ?_)
             clear IH1
             rintro _ w1 ⟨p1, rfl, ht1, hb1⟩
             have K1 := Lib.hid (KeepN.of (((Below.refl _ w).drew).trans hb1))
             have HB1 := Lib.hid (K1.out _ _ HB.out)
             have BL1 := Lib.hid (show Below w.heap.size w w1 from ((Below.refl _ w).drew).trans hb1)
             have HJ2 := Lib.hid (bal_any (b := b) (HL.out.keep K1.out) (show Nd w1 b k' v' from ⟨_, _, _, HB1.out⟩) ht1 (by omega))
             clear ht1 hb1)
          | (go_at_call 89
             (with_reducible refine HJ2.out.mono ?_)
             clear HJ2
             rintro _ w2 ⟨p2, rfl, ht2, hb2⟩
             have K2 := Lib.hid (KeepN.of hb2)
             have HB2 := Lib.hid (K2.out _ _ HB1.out)
             have BL2 := Lib.hid (BL1.out.trans (hb2.mono BL1.out.size))
             have HT2 := Lib.hid ht2
             clear ht2 hb2)
          | fail)
        all_goals (
          go_wp2
          go_ret
          exact ⟨_, rfl, by rw [HEE.out]; exact HT2.out, BL2.out⟩)
  
end Go.Proofs.Ythcjbljkokflgaa.OI
/- Maps over trees (values: Int): Len, Get, Place, At. -/
namespace Go.Proofs.Ythcjbljkokflgaa.OI
open Go.RowKit
open Go.Lib
set_option linter.unusedVariables false
set_option linter.unusedSimpArgs false
set_option maxRecDepth 100000
def ov (o : Option (Int)) : Value := .int .i64 (o.getD 0)
def nodeSz (w : World) : Value → Nat
  | .pointer (some a) => match w.cell? ⟨a.block, 2, none⟩ with
    | some (.int _ n) => n.toNat
    | _ => 0
  | _ => 0
theorem nodeSz_of {w : World} {b : Nat} {k : ByteArray} {v : Int} {n : Nat} {pl pr : Option Addr} (h : Blk w b 138 (ncs k v ((n : Nat) : Int) pl pr)) : nodeSz w (.pointer (some ⟨b, 0, none⟩)) = n := by
  have h2 : w.cell? ⟨b, 2, none⟩ = some (.int .i64 (n : Int)) := h.cell 2
  show (match w.cell? ⟨b, 2, none⟩ with
    | some (.int _ n) => n.toNat
    | _ => 0) = n
  rw [h2]
  simp
theorem isz {w : World} {t : T} {p : Option Addr} (h : IsT w t p) : nodeSz w (.pointer p) = t.size := by
  cases t with
  | nil => obtain rfl : p = none := h; rfl
  | node k v l r =>
    obtain ⟨b, pl, pr, rfl, hb, _, _⟩ := h
    exact nodeSz_of hb
/-- A map: its box, and the tree. -/
def Mt (w : World) (g : Nat) (t : T) : Prop := ∃ p, Blk w g 135 #[.pointer p] ∧ IsT w t p
theorem Mt.below {w w' : World} {g : Nat} {t : T} (h : Mt w g t) (hb : Below w.heap.size w w') : Mt w' g t := by
  obtain ⟨p, h1, h2⟩ := h
  exact ⟨p, h1.below hb h1.lt, h2.below hb⟩
theorem len_any {w : World} {g : Nat} {t : T} (h : Mt w g t) : Calls Try.prog 68 #[.pointer (some ⟨g, 0, none⟩)] w fun e w' => e = .returned (.int .i64 (t.size : Int)) ∧ w' = w := by
  obtain ⟨p, h1, h2⟩ := h
  have c0 : w.cell? ⟨g, 0, none⟩ = some (.pointer p) := h1.cell 0
  have HS := Lib.hid (size_any h2)
  clear h1 h2
  go_enter Try.func68, Try.ntmps68
  go_wp2_with fail
  refine HS.out.mono ?_
  rintro _ wz ⟨rfl, hw0⟩
  replace hw0 := hw0.symm
  subst hw0
  go_wp2
  go_ret
  exact ⟨rfl, rfl⟩
set_option maxHeartbeats 4000000 in
theorem get_any {w : World} {g : Nat} {t : T} (h : Mt w g t) (k : ByteArray) : Calls Try.prog 66 #[.pointer (some ⟨g, 0, none⟩), .string k] w fun e w' => e = .returned (.tuple #[ov (Tr.get k t), .bool (Tr.get k t).isSome]) ∧ w' = w := by
  obtain ⟨p, h1, h2⟩ := h
  have c0 : w.cell? ⟨g, 0, none⟩ = some (.pointer p) := h1.cell 0
  have HT := Lib.hid h2
  obtain ⟨o, ho⟩ : ∃ o, Tr.get k t = o := ⟨_, rfl⟩
  have HO := Lib.hid ho
  rw [ho]
  clear h1 h2 ho
  go_enter Try.func66, Try.ntmps66
  go_wp2_with fail
  go_loop [6] (fun q => ∃ (t' : T) (pq : Option Addr), q = .pointer pq ∧ IsT w t' pq ∧ Tr.get k t' = o) (fun q => nodeSz w q)
  case atStart => exact ⟨_, _, rfl, HT.out, HO.out⟩
  case round =>
    obtain ⟨t', pq, rfl, ht, hg⟩ := hrel
    have HG := Lib.hid hg
    cases t' with
    | nil =>
      obtain rfl : pq = none := ht
      obtain rfl : o = none := HG.out.symm
      clear hg
      go_wp2
      go_ret2
      exact ⟨rfl, rfl⟩
    | node k' v' l r =>
      obtain ⟨b, pl, pr, rfl, hB, hl, hr⟩ := ht
      have d0 : w.cell? ⟨b, 0, none⟩ = some (.string k') := hB.cell 0
      have d1 : w.cell? ⟨b, 1, none⟩ = some (.int .i64 v') := hB.cell 1
      have d3 : w.cell? ⟨b, 3, none⟩ = some (.pointer pl) := hB.cell 3
      have d4 : w.cell? ⟨b, 4, none⟩ = some (.pointer pr) := hB.cell 4
      have HM := Lib.hid (show nodeSz w (.pointer (some ⟨b, 0, none⟩)) = _ from nodeSz_of hB)
      have HL := Lib.hid hl
      have HR := Lib.hid hr
      have HGE := Lib.hid (show (if klt k k' = true then Tr.get k l else if k = k' then some v' else Tr.get k r) = o from hg)
      have HLM := Lib.hid (isz hl)
      have HRM := Lib.hid (isz hr)
      clear hg hB hl hr HG
      by_cases hk : klt k k' = true
      · have hkb : Op.bytesLess k.toList k'.toList = true := hk
        have HG2 := Lib.hid ((if_pos hk).symm.trans HGE.out)
        clear hk
        go_wp2_with fail
        go_round
        case rel => exact ⟨l, _, rfl, HL.out, HG2.out⟩
        case measure => rw [HM.out, HLM.out]; omega
      · have hkb : Op.bytesLess k.toList k'.toList = false := by have : klt k k' = false := by simpa using hk
                                                                 exact this
        by_cases he : k = k'
        · have HG2 := Lib.hid ((if_pos he).symm.trans ((if_neg hk).symm.trans HGE.out))
          subst he
          clear hk
          have hoo := HG2.out
          subst hoo
          go_wp2
          go_ret2
          exact ⟨rfl, rfl⟩
        · have HG2 := Lib.hid ((if_neg he).symm.trans ((if_neg hk).symm.trans HGE.out))
          have heb : (k.toList == k'.toList) = false := by rw [keq]; exact decide_eq_false he
          clear hk he
          go_wp2_with fail
          go_round
          case rel => exact ⟨r, _, rfl, HR.out, HG2.out⟩
          case measure => rw [HM.out, HRM.out]; omega
end Go.Proofs.Ythcjbljkokflgaa.OI
/- Maps over trees (values: Int): At; what a call leaves; Put, Del by lists. -/
namespace Go.Proofs.Ythcjbljkokflgaa.OI
open Go.RowKit
open Go.Lib
set_option linter.unusedVariables false
set_option linter.unusedSimpArgs false
set_option maxRecDepth 100000
/-- What a call on a map leaves as it was: all but its box. -/
structure Ko (w w' : World) (g : Nat) : Prop where
  os : w'.os = w.os
  tape : w'.tape = w.tape
  output : w'.output = w.output
  size : w.heap.size ≤ w'.heap.size
  block : ∀ j, j < w.heap.size → j ≠ g → w'.heap[j]? = w.heap[j]?
theorem Ko.below {w w' : World} {g B : Nat} (h : Ko w w' g) (hg : B ≤ g) (hB : B ≤ w.heap.size) : Below B w w' := ⟨h.os, h.tape, h.output, h.size, fun j hj => h.block j (by omega) (by omega)⟩
theorem Ko.of {w w' : World} {g : Nat} (h : Below w.heap.size w w') : Ko w w' g := ⟨h.os, h.tape, h.output, h.size, fun j hj _ => h.block j hj⟩
theorem Ko.trans {a b c : World} {g : Nat} (h : Ko a b g) (k : Ko b c g) : Ko a c g := ⟨k.os.trans h.os, k.tape.trans h.tape, k.output.trans h.output, Nat.le_trans h.size k.size, fun j hj hn => (k.block j (Nat.lt_of_lt_of_le hj h.size) hn).trans (h.block j hj hn)⟩
/-- A map's root is another tree. -/
theorem root_set {w w1 : World} {g : Nat} {t' : T} {p p1 : Option Addr} (hb : Blk w g 135 #[.pointer p]) (h1 : Below w.heap.size w w1) (ht : IsT w1 t' p1) : Mt (w1.setCell ⟨g, 0, none⟩ (.pointer p1)) g t' ∧ Ko w (w1.setCell ⟨g, 0, none⟩ (.pointer p1)) g := by
  have hb1 := hb.below h1 hb.lt
  refine ⟨⟨p1, hb1.set_ 0 _, ht.keep (KeepN.set hb1 (by decide) 0 _)⟩, ⟨h1.os, h1.tape, h1.output, ?_, fun j hj hn => (Below.heap_setCell w1 ⟨g, 0, none⟩ _ j hn).trans (h1.block j hj)⟩⟩
  have := h1.size
  simpa [World.setCell] using this
theorem put_map {w : World} {g : Nat} {t : T} (h : Mt w g t) (hs : t.size ≤ 40000) (k : ByteArray) (v : Int) : Calls Try.prog 67 #[.pointer (some ⟨g, 0, none⟩), .string k, .int .i64 v] w fun e w' => e = .returned (.bool (decide (t.size < (Tr.put k v t).size))) ∧ Mt w' g (Tr.put k v t) ∧ Ko w w' g := by
  have HLN := Lib.hid (len_any h)
  obtain ⟨p, h1, h2⟩ := h
  have c0 : w.cell? ⟨g, 0, none⟩ = some (.pointer p) := h1.cell 0
  have HB := Lib.hid h1
  have HP := Lib.hid (put_any k v h2 (by omega))
  obtain ⟨t', ht'⟩ : ∃ t', Tr.put k v t = t' := ⟨_, rfl⟩
  rw [ht'] at HP ⊢
  obtain ⟨n, hn⟩ : ∃ n, t.size = n := ⟨_, rfl⟩
  rw [hn] at HLN ⊢
  obtain ⟨m, hm⟩ : ∃ m, t'.size = m := ⟨_, rfl⟩
  have HM := Lib.hid hm
  rw [hm]
  clear h1 h2 ht' hn hm
  go_enter Try.func67, Try.ntmps67
  go_wp2_with fail
  refine HLN.out.mono ?_
  rintro _ wz ⟨rfl, hw0⟩
  replace hw0 := hw0.symm
  subst hw0
  go_wp2_with fail
  refine HP.out.mono ?_
  rintro _ w1 ⟨p1, rfl, ht1, hb1⟩
  have HR := Lib.hid (root_set HB.out hb1 ht1)
  have b1 := HB.out.below hb1 HB.out.lt
  have d0 := b1.cell 0
  have f0 := b1.frozen 0
  clear ht1 hb1 b1
  go_wp2_with fail
  refine (len_any HR.out.1).mono ?_
  rintro _ wz ⟨rfl, hw0⟩
  replace hw0 := hw0.symm
  subst hw0
  rw [HM.out]
  go_wp2
  go_ret
  exact ⟨by first | rfl | (congr 2; simp) | congr 2, HR.out.1, HR.out.2⟩
theorem new_map (w : World) : Calls Try.prog 64 #[] w fun e w' => ∃ g, e = .returned (.pointer (some ⟨g, 0, none⟩)) ∧ Mt w' g .nil ∧ Below w.heap.size w w' ∧ w.heap.size ≤ g := by
  go_enter Try.func64, Try.ntmps64
  go_wp2
  go_ret
  exact ⟨w.heap.size, rfl, ⟨none, Blk.new w 135 _, rfl⟩, (Below.refl _ w).alloc (Nat.le_refl _) _, Nat.le_refl _⟩
end Go.Proofs.Ythcjbljkokflgaa.OI
/- Maps over trees (values: Int), told by rising lists. -/
namespace Go.Proofs.Ythcjbljkokflgaa.OI
open Go.RowKit
open Go.Lib
set_option linter.unusedVariables false
set_option linter.unusedSimpArgs false
set_option maxRecDepth 100000
def Om (w : World) (g : Nat) (L : List (ByteArray × Int)) : Prop := ∃ t, Mt w g t ∧ t.ino = L ∧ Srt L
section
variable {w w' : World} {g : Nat} {L : List (ByteArray × Int)}
theorem Om.lt (h : Om w g L) : g < w.heap.size := by
  obtain ⟨t, ⟨p, h, _⟩, _⟩ := h
  exact h.lt
theorem Om.below (h : Om w g L) (hb : Below w.heap.size w w') : Om w' g L := by
  obtain ⟨t, h1, h2⟩ := h
  exact ⟨t, h1.below hb, h2⟩
/-- Its box and all nodes are as they were. -/
theorem Om.keep (h : Om w g L) (hg : w'.heap[g]? = w.heap[g]?) (hk : KeepN w w') : Om w' g L := by
  obtain ⟨t, ⟨p, h1, h3⟩, h2⟩ := h
  exact ⟨t, ⟨p, hg.trans h1, h3.keep hk⟩, h2⟩
theorem Om.box (h : Om w g L) : ∃ p, Blk w g 135 #[.pointer p] := by
  obtain ⟨t, ⟨p, h1, _⟩, _⟩ := h
  exact ⟨p, h1⟩
theorem om_new (w : World) : Calls Try.prog 64 #[] w fun e w' => ∃ g, e = .returned (.pointer (some ⟨g, 0, none⟩)) ∧ Om w' g [] ∧ Below w.heap.size w w' ∧ w.heap.size ≤ g := by
  refine (new_map w).mono ?_
  rintro _ w' ⟨g, rfl, h1, h2, h3⟩
  exact ⟨g, rfl, ⟨_, h1, rfl, List.Pairwise.nil⟩, h2, h3⟩
theorem om_len (h : Om w g L) : Calls Try.prog 68 #[.pointer (some ⟨g, 0, none⟩)] w fun e w' => e = .returned (.int .i64 (L.length : Int)) ∧ w' = w := by
  obtain ⟨t, h1, rfl, h2⟩ := h
  rw [← Tr.size_ino]
  exact len_any h1
theorem om_get (h : Om w g L) (k : ByteArray) (o : Option (Int)) (ho : getL k L = o) : Calls Try.prog 66 #[.pointer (some ⟨g, 0, none⟩), .string k] w fun e w' => e = .returned (.tuple #[ov o, .bool o.isSome]) ∧ w' = w := by
  subst ho
  obtain ⟨t, h1, rfl, h2⟩ := h
  rw [← Tr.get_ino h2]
  exact get_any h1 k
theorem om_put (h : Om w g L) (hn : L.length ≤ 40000) (k : ByteArray) (v : Int) (o : Bool) (ho : (getL k L).isSome = o) : Calls Try.prog 67 #[.pointer (some ⟨g, 0, none⟩), .string k, .int .i64 v] w fun e w' => e = .returned (.bool (!o)) ∧ Om w' g (insL k v L) ∧ Ko w w' g := by
  subst ho
  obtain ⟨t, h1, rfl, h2⟩ := h
  refine (put_map h1 (by rw [Tr.size_ino]; exact hn) k v).mono ?_
  rintro _ w' ⟨rfl, h3, h4⟩
  refine ⟨?_, ⟨_, h3, Tr.ino_put h2, h2.ins⟩, h4⟩
  congr 2
  rw [Tr.size_ino, Tr.size_ino, Tr.ino_put h2, insL_len h2]
  cases (getL k t.ino).isSome <;> simp
end
end Go.Proofs.Ythcjbljkokflgaa.OI
namespace Go.Proofs.Ythcjbljkokflgaa.OI
open Go.RowKit
open Go.Lib
set_option linter.unusedVariables false
set_option linter.unusedSimpArgs false
set_option maxRecDepth 100000
open Go.Shelf
attribute [local go_sem] Oper.semAt_some
theorem room_of_none {F : Fence} (hd : F.depth = none) (k : Nat) : F.room k := fun d h => by rw [hd] at h; cases h
theorem RoundIn_anyDepth {F : Fence} (hd : F.depth = none) {m m' : Nat} {P : Program} {l : Nat} {f : FuncId} {tmps : Array Value} {assign body : Code} {w : World} {R : Ending → World → Prop}
    (h : RoundIn F m P l f tmps assign body w R) : RoundIn F m' P l f tmps assign body w R := ⟨h.1, fun c cs _ => h.2 c cs (room_of_none hd _)⟩
theorem YieldAt_anyDepth {F : Fence} (hd : F.depth = none) {m : Nat} (m' : Nat) {P : Program} {l : Nat} {args : Array Value} {W : World} {R : Ending → World → Prop} (h : YieldAt F m P l args W R) : YieldAt F m' P l args W R := by
  obtain ⟨fn, tmps, assign, body, hy, hR⟩ := h
  exact ⟨fn, tmps, assign, body, hy, RoundIn_anyDepth hd hR⟩
abbrev It := ByteArray × Int
def enI (x : It) : Array Value := #[.string x.1, .int .i64 x.2]
theorem hasPre_lib (a b : ByteArray) (w : World) (ha : a.size ≤ 1000000) (hb : b.size ≤ 1000000) : Calls Try.prog 93 #[.string a, .string b] w fun e w' => e = .returned (.bool (preB b a)) ∧ w' = w := by
  have HE := Lib.hid (show preB b a = (decide (b.size ≤ a.size) && ((a.extract 0 b.size).toList == b.toList)) from rfl)
  by_cases h : b.size ≤ a.size
  · have hI : (a.size : Int) ≥ (b.size : Int) := by omega
    have hE := HE.out
    rw [decide_eq_true h] at hE
    have HE2 := Lib.hid hE
    clear hE h
    go_enter Try.func93, Try.ntmps93
    go_wp2
    go_ret
    rw [HE2.out]
    exact ⟨rfl, rfl⟩
  · have hI : ¬ (a.size : Int) ≥ (b.size : Int) := by omega
    have hE := HE.out
    rw [decide_eq_false h] at hE
    have HE2 := Lib.hid hE
    clear hE h
    go_enter Try.func93, Try.ntmps93
    go_wp2
    go_ret
    rw [HE2.out]
    exact ⟨rfl, rfl⟩
theorem hasPre_any (a b : ByteArray) (w : World) (ha : a.size ≤ 1000000) (hb : b.size ≤ 1000000) : Calls Try.prog 88 #[.string a, .string b] w fun e w' => e = .returned (.bool (preB b a)) ∧ w' = w := by
  have H := Lib.hid (hasPre_lib a b w ha hb)
  go_enter Try.func88, Try.ntmps88
  go_wp2_with fail
  refine H.out.mono ?_
  rintro _ wz ⟨rfl, hw0⟩
  replace hw0 := hw0.symm
  subst hw0
  go_wp2
  go_ret
  exact ⟨rfl, rfl⟩
end Go.Proofs.Ythcjbljkokflgaa.OI
