/- Trees in memory (values: Int): turnLeft. -/
import Derived.Test.YtlfjhbfhnlclpaaOna
namespace Go.Proofs.Ytlfjhbfhnlclpaa.ON
open Go.RowKit
open Go.Lib
set_option linter.unusedVariables false
set_option linter.unusedSimpArgs false
set_option maxRecDepth 100000
set_option maxHeartbeats 8000000 in
theorem turnL_any {w : World} {l r : T} {pl pr : Option Addr} {b : Nat} {k : ByteArray} {v : Int} (hl : IsT w l pl) (hn : Nd w b k v) (hr : IsT w r pr) (hs : l.size + r.size ≤ 100000) (h2 : 2 ≤ r.size) :
    Calls Try.prog 68 #[.pointer pl, .pointer (some ⟨b, 0, none⟩), .pointer pr] w fun e w' => ∃ p, e = .returned (.pointer p) ∧ IsT w' (Tr.turnL l k v r) p ∧ Below w.heap.size w w' := by
  cases r with
  | nil => exact absurd h2 (by show ¬ 2 ≤ 0; omega)
  | node rk rv rl rr =>
    have HL := Lib.hid hl
    have HN := Lib.hid hn
    obtain ⟨rb, prl, prr, rfl, hB, hrl, hrr⟩ := hr
    have cI : w.cell? ⟨rb, 3, none⟩ = some (.pointer prl) := hB.cell 3
    have cO : w.cell? ⟨rb, 4, none⟩ = some (.pointer prr) := hB.cell 4
    have HS1 := Lib.hid (size_any (hrl.keep (KeepN.drew w)))
    have HS2 := Lib.hid (size_any (hrr.keep (KeepN.drew w)))
    have HI := Lib.hid hrl
    have HO := Lib.hid hrr
    have HB := Lib.hid hB
    obtain ⟨m, hm⟩ : ∃ m, rl.size = m := ⟨_, rfl⟩
    obtain ⟨n, hn2⟩ : ∃ n, rr.size = n := ⟨_, rfl⟩
    have HM := Lib.hid hm
    have HNN := Lib.hid hn2
    have hs' : l.size + (m + 1 + n) ≤ 100000 := by rw [← hm, ← hn2]; exact hs
    have h2' : 2 ≤ m + 1 + n := by rw [← hm, ← hn2]; exact h2
    rw [hm] at HS1
    rw [hn2] at HS2
    have i1 : IntKind.i64.wrap (2 * (n : Int)) = 2 * (n : Int) := IntWalk.i64_in _ (by omega)
    have cOd : w.drew.cell? ⟨rb, 4, none⟩ = some (.pointer prr) := cO
    clear hl hn hB hrl hrr hm hn2 hs h2
    go_enter Try.func68, Try.ntmps68
    go_wp2_with fail
    go_region_held3 (fun w' => w'.cell? ⟨rb, 4, none⟩ = some (.pointer prr)) (first | exact cOd) (first
      | (go_at_call 38
         (with_reducible refine HS1.out.mono ?_)
         clear HS1
         rintro _ wz ⟨rfl, hw0⟩
         replace hw0 := hw0.symm
         subst hw0)
      | (go_at_call 38
         (with_reducible refine HS2.out.mono ?_)
         clear HS2
         rintro _ wz ⟨rfl, hw0⟩
         replace hw0 := hw0.symm
         subst hw0)
      | fail)
    all_goals (
      by_cases hc : 2 * n ≤ m
      · cases rl with
        | nil =>
          exfalso
          have : 0 = m := HM.out
          omega
        | node ik iv il ir =>
          have HT := Lib.hid (show Tr.turnL l k v (.node rk rv (.node ik iv il ir) rr) = .node ik iv (.node k v l il) (.node rk rv ir rr) from by unfold Tr.turnL; simp only; rw [if_pos (by rw [HM.out, HNN.out]; exact hc)])
          obtain ⟨ib, pil, pir, rfl, hib, hil, hir⟩ := HI.out
          have hsi : il.size + 1 + ir.size = m := HM.out
          have hcI : (m : Int) ≥ 2 * (n : Int) := by omega
          have hj := join_any (HL.out.keep (KeepN.drew2 w)) (HN.out.keep (KeepN.drew2 w)) (hil.keep (KeepN.drew2 w)) (by omega)
          have HJ1 := Lib.hid hj
          have HIL := Lib.hid hil
          have HIR := Lib.hid hir
          have HIB := Lib.hid hib
          have e1 : w.drew.drew.cell? ⟨ib, 3, none⟩ = some (.pointer pil) := hib.cell 3
          have e2 : w.drew.drew.cell? ⟨ib, 4, none⟩ = some (.pointer pir) := hib.cell 4
          clear hib hil hir hj cI cO cOd
          go_wp2_with fail
          go_region_held3 (fun w' => w'.cell? ⟨ib, 3, none⟩ = some (.pointer pil) ∧ w'.cell? ⟨ib, 4, none⟩ = some (.pointer pir) ∧ w'.cell? ⟨rb, 4, none⟩ = some (.pointer prr)) (first | exact ⟨e1, e2, HB.out.cell 4⟩ | exact ⟨HIB1.out.cell 3, HIB1.out.cell 4, HB1.out.cell 4⟩ | exact ⟨HIB2.out.cell 3, HIB2.out.cell 4, HB2.out.cell 4⟩ | exact ⟨HIB3.out.cell 3, HIB3.out.cell 4, HB3.out.cell 4⟩) (first
            | (go_at_call 67
               (with_reducible refine HJ1.out.mono ?_)
               clear HJ1
               rintro _ w1 ⟨p1, rfl, ht1, hb1⟩
               have K1 := Lib.hid (KeepN.of (((Below.refl _ w).drew.drew).trans hb1))
               have HB1 := Lib.hid (K1.out _ _ HB.out)
               have HIB1 := Lib.hid (K1.out _ _ HIB.out)
               have HT1 := Lib.hid ht1
               have BL1 := Lib.hid (show Below w.heap.size w w1 from ((Below.refl _ w).drew.drew).trans hb1)
               have HJ2 := Lib.hid (join_any (b := rb) (HIR.out.keep K1.out) (show Nd w1 rb rk rv from ⟨_, _, _, HB1.out⟩) (HO.out.keep K1.out) (by rw [HNN.out]; omega))
               clear ht1 hb1)
            | (go_at_call 67
               (with_reducible refine HJ2.out.mono ?_)
               clear HJ2
               rintro _ w2 ⟨p2, rfl, ht2, hb2⟩
               have K2 := Lib.hid (KeepN.of hb2)
               have HB2 := Lib.hid (K2.out _ _ HB1.out)
               have HIB2 := Lib.hid (K2.out _ _ HIB1.out)
               have BL2 := Lib.hid (BL1.out.trans (hb2.mono BL1.out.size))
               have HJ3 := Lib.hid (join_any (b := ib) (HT1.out.keep K2.out) (show Nd w2 ib ik iv from ⟨_, _, _, HIB2.out⟩) ht2 (by show l.size + 1 + il.size + (ir.size + 1 + rr.size) ≤ 1000000; rw [HNN.out]; omega))
               clear ht2 hb2)
            | (go_at_call 67
               (with_reducible refine HJ3.out.mono ?_)
               clear HJ3
               rintro _ w3 ⟨p3, rfl, ht3, hb3⟩
               have K3 := Lib.hid (KeepN.of hb3)
               have HB3 := Lib.hid (K3.out _ _ HB2.out)
               have HIB3 := Lib.hid (K3.out _ _ HIB2.out)
               have BL3 := Lib.hid (BL2.out.trans (hb3.mono BL2.out.size))
               have HT3 := Lib.hid ht3
               clear ht3 hb3)
            | fail)
          all_goals (
            go_wp2
            go_ret
            exact ⟨_, rfl, by rw [HT.out]; exact HT3.out, BL3.out⟩)
      · have HT := Lib.hid (show Tr.turnL l k v (.node rk rv rl rr) = .node rk rv (.node k v l rl) rr from by unfold Tr.turnL; simp only; rw [if_neg (by rw [HM.out, HNN.out]; exact hc)])
        have hcI : ¬ (m : Int) ≥ 2 * (n : Int) := by omega
        have hj := join_any (HL.out.keep (KeepN.drew2 w)) (HN.out.keep (KeepN.drew2 w)) (HI.out.keep (KeepN.drew2 w)) (by rw [HM.out]; omega)
        have HJ1 := Lib.hid hj
        have e1 : w.drew.drew.cell? ⟨rb, 3, none⟩ = some (.pointer prl) := cI
        clear hj cI cO cOd
        go_wp2_with fail
        go_region_held3 (fun w' => w'.cell? ⟨rb, 3, none⟩ = some (.pointer prl) ∧ w'.cell? ⟨rb, 4, none⟩ = some (.pointer prr)) (first | exact ⟨e1, HB.out.cell 4⟩ | exact ⟨HB1.out.cell 3, HB1.out.cell 4⟩ | exact ⟨HB2.out.cell 3, HB2.out.cell 4⟩) (first
          | (go_at_call 67
             (with_reducible refine HJ1.out.mono ?_)
             clear HJ1
             rintro _ w1 ⟨p1, rfl, ht1, hb1⟩
             have K1 := Lib.hid (KeepN.of (((Below.refl _ w).drew.drew).trans hb1))
             have HB1 := Lib.hid (K1.out _ _ HB.out)
             have BL1 := Lib.hid (show Below w.heap.size w w1 from ((Below.refl _ w).drew.drew).trans hb1)
             have HJ2 := Lib.hid (join_any (b := rb) ht1 (show Nd w1 rb rk rv from ⟨_, _, _, HB1.out⟩) (HO.out.keep K1.out) (by show l.size + 1 + rl.size + rr.size ≤ 1000000; rw [HNN.out, HM.out]; omega))
             clear ht1 hb1)
          | (go_at_call 67
             (with_reducible refine HJ2.out.mono ?_)
             clear HJ2
             rintro _ w2 ⟨p2, rfl, ht2, hb2⟩
             have K2 := Lib.hid (KeepN.of hb2)
             have HB2 := Lib.hid (K2.out _ _ HB1.out)
             have BL2 := Lib.hid (BL1.out.trans (hb2.mono BL1.out.size))
             have HT2 := Lib.hid ht2
             clear ht2 hb2)
          | fail)
        all_goals (
          go_wp2
          go_ret
          exact ⟨_, rfl, by rw [HT.out]; exact HT2.out, BL2.out⟩))
end Go.Proofs.Ytlfjhbfhnlclpaa.ON
