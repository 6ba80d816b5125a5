/- Trees in memory (values: Int × ByteArray): glue. -/
import Derived.Test.YthcjbljkokflgaaFab
import Derived.Test.YthcjbljkokflgaaFaa
import Derived.Test.YthcjbljkokflgaaProg
import Derived.WalkKit
import Derived.Deep.Upon
import Derived.Lib.Hide
import Derived.KernelRfl
import Derived.OwnWalk
import Derived.BigQuiet
import Derived.RegionTactic
import Derived.Deep.QuietTactic
import Derived.Deep.RegionWith
import Derived.Laws.Rows
import Derived.Deep.RegionHeld3
import Derived.Deep.DrawnRows
import Derived.Laws.Cover1
set_option linter.unnecessarySimpa false
/- Trees in memory (values: Int × ByteArray): what stands where; size, join. -/
namespace Go.Proofs.Ythcjbljkokflgaa.OC
open Go.RowKit
open Go.Lib
set_option linter.unusedVariables false
set_option linter.unusedSimpArgs false
set_option maxRecDepth 100000
abbrev T := Tr (Int × ByteArray)
def ncs (k : ByteArray) (v : Int × ByteArray) (s : Int) (pl pr : Option Addr) : Array Value := #[.string k, .int .i64 v.1, .string v.2, .int .i64 s, .pointer pl, .pointer pr]
def IsT (w : World) : T → Option Addr → Prop
  | .nil, p => p = none
  | .node k v l r, p => ∃ b pl pr, p = some ⟨b, 0, none⟩ ∧ Blk w b 110 (ncs k v ((l.size + 1 + r.size : Nat) : Int) pl pr) ∧ IsT w l pl ∧ IsT w r pr
/-- Blocks of nodes are as they were. -/
def KeepN (w w' : World) : Prop := ∀ b cs, Blk w b 110 cs → Blk w' b 110 cs
section
variable {w w' w2 : World} {p : Option Addr}
theorem KeepN.refl (w : World) : KeepN w w := fun _ _ h => h
theorem KeepN.trans (h : KeepN w w') (k : KeepN w' w2) : KeepN w w2 := fun b cs x => k b cs (h b cs x)
theorem KeepN.drew (w : World) : KeepN w w.drew := fun _ _ h => h
theorem KeepN.drew2 (w : World) : KeepN w w.drew.drew := fun _ _ h => h
theorem KeepN.of (h : Below w.heap.size w w') : KeepN w w' := fun b cs x => (h.block b x.lt).trans x
/-- A store into a block of another type. -/
theorem KeepN.set {g : Nat} {t : TypeId} {cs : Array Value} (h : Blk w g t cs) (ht : t ≠ 110) (i : Nat) (u : Value) : KeepN w (w.setCell ⟨g, i, none⟩ u) := fun b cs2 x => x.far (p := ⟨g, i, none⟩) (fun e => by
  have e : b = g := e
  subst e
  unfold Blk at h x
  rw [h] at x
  cases x
  exact ht rfl) u
theorem IsT.keep : ∀ {t : T} {p : Option Addr}, IsT w t p → KeepN w w' → IsT w' t p
  | .nil, p, h, _ => h
  | .node k v l r, p, ⟨b, pl, pr, h0, h1, h2, h3⟩, hk => ⟨b, pl, pr, h0, hk _ _ h1, IsT.keep h2 hk, IsT.keep h3 hk⟩
theorem IsT.below {t : T} (h : IsT w t p) (hb : Below w.heap.size w w') : IsT w' t p := h.keep (KeepN.of hb)
end
theorem size_any {w : World} {t : T} {p : Option Addr} (h : IsT w t p) : Calls Try.prog 72 #[.pointer p] w fun e w' => e = .returned (.int .i64 (t.size : Int)) ∧ w' = w := by
  cases t with
  | nil =>
    obtain rfl : p = none := h
    go_enter Try.func72, Try.ntmps72
    go_wp2
    go_ret
    exact ⟨rfl, rfl⟩
  | node k v l r =>
    obtain ⟨b, pl, pr, rfl, hb, _, _⟩ := h
    have c2 := hb.cell 3
    have hcs : (ncs k v ((l.size + 1 + r.size : Nat) : Int) pl pr)[3]? = some (.int .i64 ((l.size + 1 + r.size : Nat) : Int)) := rfl
    rw [hcs] at c2
    show Calls Try.prog 72 _ w fun e w' => e = .returned (.int .i64 ((l.size + 1 + r.size : Nat) : Int)) ∧ w' = w
    obtain ⟨n, hn⟩ : ∃ n : Nat, l.size + 1 + r.size = n := ⟨_, rfl⟩
    rw [hn] at c2 ⊢
    clear hb hcs hn
    go_enter Try.func72, Try.ntmps72
    go_wp2
    go_ret
    exact ⟨rfl, rfl⟩
/-- A node's key and value stand at p. -/
def Nd (w : World) (b : Nat) (k : ByteArray) (v : Int × ByteArray) : Prop := ∃ s x y, Blk w b 110 #[.string k, .int .i64 v.1, .string v.2, s, x, y]
theorem Nd.keep {w w' : World} {b : Nat} {k : ByteArray} {v : Int × ByteArray} (h : Nd w b k v) (hk : KeepN w w') : Nd w' b k v := by
  obtain ⟨s, x, y, h⟩ := h
  exact ⟨s, x, y, hk _ _ h⟩
set_option maxHeartbeats 4000000 in
theorem join_any {w : World} {l r : T} {pl pr : Option Addr} {b : Nat} {k : ByteArray} {v : Int × ByteArray} (hl : IsT w l pl) (hn : Nd w b k v) (hr : IsT w r pr) (hs : l.size + r.size ≤ 1000000) :
    Calls Try.prog 85 #[.pointer pl, .pointer (some ⟨b, 0, none⟩), .pointer pr] w fun e w' => ∃ p, e = .returned (.pointer p) ∧ IsT w' (.node k v l r) p ∧ Below w.heap.size w w' := by
  have HS1 := Lib.hid (size_any (hl.keep (KeepN.drew w)))
  have HS2 := Lib.hid (size_any (hr.keep (KeepN.drew w)))
  obtain ⟨s, x, y, hb⟩ := hn
  have c0 := hb.cell 0
  have c1 := hb.cell 1
  have HL := Lib.hid hl
  have HR := Lib.hid hr
  obtain ⟨m, hm⟩ : ∃ m, l.size = m := ⟨_, rfl⟩
  obtain ⟨n, hn⟩ : ∃ n, r.size = n := ⟨_, rfl⟩
  have HM := Lib.hid hm
  have HN := Lib.hid hn
  rw [hm, hn] at hs
  rw [hm] at HS1
  rw [hn] at HS2
  have i1 : IntKind.i64.wrap ((m : Int) + 1) = (m : Int) + 1 := IntWalk.i64_in _ (by omega)
  have i2 : IntKind.i64.wrap ((m : Int) + 1 + (n : Int)) = (m : Int) + 1 + (n : Int) := IntWalk.i64_in _ (by omega)
  clear hl hr hm hn
  go_enter Try.func85, Try.ntmps85
  go_wp2_with fail
  have c0d : w.drew.cell? ⟨b, 0, none⟩ = some (.string k) := c0
  have c1d : w.drew.cell? ⟨b, 1, none⟩ = some (.int .i64 v.1) := (hb.drew).cell 1
  have c1db : w.drew.cell? ⟨b, 2, none⟩ = some (.string v.2) := (hb.drew).cell 2
  go_region_held3 (fun w' => w'.cell? ⟨b, 0, none⟩ = some (.string k) ∧ w'.cell? ⟨b, 1, none⟩ = some (.int .i64 v.1) ∧ w'.cell? ⟨b, 2, none⟩ = some (.string v.2)) (first | exact ⟨c0d, c1d, c1db⟩ | exact ⟨((hb.alloc _).drew).cell 0, ((hb.alloc _).drew).cell 1, ((hb.alloc _).drew).cell 2⟩) (first
    | (go_at_call 72
       (with_reducible refine HS1.out.mono ?_)
       clear HS1
       rintro _ wz ⟨rfl, hw0⟩
       replace hw0 := hw0.symm
       subst hw0)
    | (go_at_call 72
       (with_reducible refine HS2.out.mono ?_)
       clear HS2
       rintro _ wz ⟨rfl, hw0⟩
       replace hw0 := hw0.symm
       subst hw0)
    | fail)
  all_goals (
    go_wp2
    go_ret
    have hsz : ((l.size + 1 + r.size : Nat) : Int) = (m : Int) + 1 + (n : Int) := by rw [HM.out, HN.out]; omega
    refine ⟨_, rfl, ⟨w.heap.size, pl, pr, rfl, ?_, HL.out.keep ?_, HR.out.keep ?_⟩, ?_⟩
    · rw [hsz]
      exact (Blk.new w 110 _).drew
    · exact KeepN.of (((Below.refl _ w).alloc (Nat.le_refl _) _).drew)
    · exact KeepN.of (((Below.refl _ w).alloc (Nat.le_refl _) _).drew)
    · exact ((Below.refl _ w).alloc (Nat.le_refl _) _).drew)
end Go.Proofs.Ythcjbljkokflgaa.OC
/- Trees in memory (values: Int × ByteArray): turnLeft. -/
namespace Go.Proofs.Ythcjbljkokflgaa.OC
open Go.RowKit
open Go.Lib
set_option linter.unusedVariables false
set_option linter.unusedSimpArgs false
set_option maxRecDepth 100000
set_option maxHeartbeats 8000000 in
theorem turnL_any {w : World} {l r : T} {pl pr : Option Addr} {b : Nat} {k : ByteArray} {v : Int × ByteArray} (hl : IsT w l pl) (hn : Nd w b k v) (hr : IsT w r pr) (hs : l.size + r.size ≤ 100000) (h2 : 2 ≤ r.size) :
    Calls Try.prog 86 #[.pointer pl, .pointer (some ⟨b, 0, none⟩), .pointer pr] w fun e w' => ∃ p, e = .returned (.pointer p) ∧ IsT w' (Tr.turnL l k v r) p ∧ Below w.heap.size w w' := by
  cases r with
  | nil => exact absurd h2 (by show ¬ 2 ≤ 0; omega)
  | node rk rv rl rr =>
    have HL := Lib.hid hl
    have HN := Lib.hid hn
    obtain ⟨rb, prl, prr, rfl, hB, hrl, hrr⟩ := hr
    have cI : w.cell? ⟨rb, 4, none⟩ = some (.pointer prl) := hB.cell 4
    have cO : w.cell? ⟨rb, 5, none⟩ = some (.pointer prr) := hB.cell 5
    have HS1 := Lib.hid (size_any (hrl.keep (KeepN.drew w)))
    have HS2 := Lib.hid (size_any (hrr.keep (KeepN.drew w)))
    have HI := Lib.hid hrl
    have HO := Lib.hid hrr
    have HB := Lib.hid hB
    obtain ⟨m, hm⟩ : ∃ m, rl.size = m := ⟨_, rfl⟩
    obtain ⟨n, hn2⟩ : ∃ n, rr.size = n := ⟨_, rfl⟩
    have HM := Lib.hid hm
    have HNN := Lib.hid hn2
    have hs' : l.size + (m + 1 + n) ≤ 100000 := by rw [← hm, ← hn2]; exact hs
    have h2' : 2 ≤ m + 1 + n := by rw [← hm, ← hn2]; exact h2
    rw [hm] at HS1
    rw [hn2] at HS2
    have i1 : IntKind.i64.wrap (2 * (n : Int)) = 2 * (n : Int) := IntWalk.i64_in _ (by omega)
    have cOd : w.drew.cell? ⟨rb, 5, none⟩ = some (.pointer prr) := cO
    clear hl hn hB hrl hrr hm hn2 hs h2
    go_enter Try.func86, Try.ntmps86
    go_wp2_with fail
    go_region_held3 (fun w' => w'.cell? ⟨rb, 5, none⟩ = some (.pointer prr)) (first | exact cOd) (first
      | (go_at_call 72
         (with_reducible refine HS1.out.mono ?_)
         clear HS1
         rintro _ wz ⟨rfl, hw0⟩
         replace hw0 := hw0.symm
         subst hw0)
      | (go_at_call 72
         (with_reducible refine HS2.out.mono ?_)
         clear HS2
         rintro _ wz ⟨rfl, hw0⟩
         replace hw0 := hw0.symm
         subst hw0)
      | fail)
    all_goals (
      by_cases hc : 2 * n ≤ m
      · cases rl with
        | nil =>
          exfalso
          have : 0 = m := HM.out
          omega
        | node ik iv il ir =>
          have HT := Lib.hid (show Tr.turnL l k v (.node rk rv (.node ik iv il ir) rr) = .node ik iv (.node k v l il) (.node rk rv ir rr) from by unfold Tr.turnL; simp only; rw [if_pos (by rw [HM.out, HNN.out]; exact hc)])
          obtain ⟨ib, pil, pir, rfl, hib, hil, hir⟩ := HI.out
          have hsi : il.size + 1 + ir.size = m := HM.out
          have hcI : (m : Int) ≥ 2 * (n : Int) := by omega
          have hj := join_any (HL.out.keep (KeepN.drew2 w)) (HN.out.keep (KeepN.drew2 w)) (hil.keep (KeepN.drew2 w)) (by omega)
          have HJ1 := Lib.hid hj
          have HIL := Lib.hid hil
          have HIR := Lib.hid hir
          have HIB := Lib.hid hib
          have e1 : w.drew.drew.cell? ⟨ib, 4, none⟩ = some (.pointer pil) := hib.cell 4
          have e2 : w.drew.drew.cell? ⟨ib, 5, none⟩ = some (.pointer pir) := hib.cell 5
          clear hib hil hir hj cI cO cOd
          go_wp2_with fail
          go_region_held3 (fun w' => w'.cell? ⟨ib, 4, none⟩ = some (.pointer pil) ∧ w'.cell? ⟨ib, 5, none⟩ = some (.pointer pir) ∧ w'.cell? ⟨rb, 5, none⟩ = some (.pointer prr)) (first | exact ⟨e1, e2, HB.out.cell 5⟩ | exact ⟨HIB1.out.cell 4, HIB1.out.cell 5, HB1.out.cell 5⟩ | exact ⟨HIB2.out.cell 4, HIB2.out.cell 5, HB2.out.cell 5⟩ | exact ⟨HIB3.out.cell 4, HIB3.out.cell 5, HB3.out.cell 5⟩) (first
            | (go_at_call 85
               (with_reducible refine HJ1.out.mono ?_)
               clear HJ1
               rintro _ w1 ⟨p1, rfl, ht1, hb1⟩
               have K1 := Lib.hid (KeepN.of (((Below.refl _ w).drew.drew).trans hb1))
               have HB1 := Lib.hid (K1.out _ _ HB.out)
               have HIB1 := Lib.hid (K1.out _ _ HIB.out)
               have HT1 := Lib.hid ht1
               have BL1 := Lib.hid (show Below w.heap.size w w1 from ((Below.refl _ w).drew.drew).trans hb1)
               have HJ2 := Lib.hid (join_any (b := rb) (HIR.out.keep K1.out) (show Nd w1 rb rk rv from ⟨_, _, _, HB1.out⟩) (HO.out.keep K1.out) (by rw [HNN.out]; omega))
               clear ht1 hb1)
            | (go_at_call 85
               (with_reducible refine HJ2.out.mono ?_)
               clear HJ2
               rintro _ w2 ⟨p2, rfl, ht2, hb2⟩
               have K2 := Lib.hid (KeepN.of hb2)
               have HB2 := Lib.hid (K2.out _ _ HB1.out)
               have HIB2 := Lib.hid (K2.out _ _ HIB1.out)
               have BL2 := Lib.hid (BL1.out.trans (hb2.mono BL1.out.size))
               have HJ3 := Lib.hid (join_any (b := ib) (HT1.out.keep K2.out) (show Nd w2 ib ik iv from ⟨_, _, _, HIB2.out⟩) ht2 (by show l.size + 1 + il.size + (ir.size + 1 + rr.size) ≤ 1000000; rw [HNN.out]; omega))
               clear ht2 hb2)
            | (go_at_call 85
               (with_reducible refine HJ3.out.mono ?_)
               clear HJ3
               rintro _ w3 ⟨p3, rfl, ht3, hb3⟩
               have K3 := Lib.hid (KeepN.of hb3)
               have HB3 := Lib.hid (K3.out _ _ HB2.out)
               have HIB3 := Lib.hid (K3.out _ _ HIB2.out)
               have BL3 := Lib.hid (BL2.out.trans (hb3.mono BL2.out.size))
               have HT3 := Lib.hid ht3
               clear ht3 hb3)
            | fail)
          all_goals (
            go_wp2
            go_ret
            exact ⟨_, rfl, by rw [HT.out]; exact HT3.out, BL3.out⟩)
      · have HT := Lib.hid (show Tr.turnL l k v (.node rk rv rl rr) = .node rk rv (.node k v l rl) rr from by unfold Tr.turnL; simp only; rw [if_neg (by rw [HM.out, HNN.out]; exact hc)])
        have hcI : ¬ (m : Int) ≥ 2 * (n : Int) := by omega
        have hj := join_any (HL.out.keep (KeepN.drew2 w)) (HN.out.keep (KeepN.drew2 w)) (HI.out.keep (KeepN.drew2 w)) (by rw [HM.out]; omega)
        have HJ1 := Lib.hid hj
        have e1 : w.drew.drew.cell? ⟨rb, 4, none⟩ = some (.pointer prl) := cI
        clear hj cI cO cOd
        go_wp2_with fail
        go_region_held3 (fun w' => w'.cell? ⟨rb, 4, none⟩ = some (.pointer prl) ∧ w'.cell? ⟨rb, 5, none⟩ = some (.pointer prr)) (first | exact ⟨e1, HB.out.cell 5⟩ | exact ⟨HB1.out.cell 4, HB1.out.cell 5⟩ | exact ⟨HB2.out.cell 4, HB2.out.cell 5⟩) (first
          | (go_at_call 85
             (with_reducible refine HJ1.out.mono ?_)
             clear HJ1
             rintro _ w1 ⟨p1, rfl, ht1, hb1⟩
             have K1 := Lib.hid (KeepN.of (((Below.refl _ w).drew.drew).trans hb1))
             have HB1 := Lib.hid (K1.out _ _ HB.out)
             have BL1 := Lib.hid (show Below w.heap.size w w1 from ((Below.refl _ w).drew.drew).trans hb1)
             have HJ2 := Lib.hid (join_any (b := rb) ht1 (show Nd w1 rb rk rv from ⟨_, _, _, HB1.out⟩) (HO.out.keep K1.out) (by show l.size + 1 + rl.size + rr.size ≤ 1000000; rw [HNN.out, HM.out]; omega))
             clear ht1 hb1)
          | (go_at_call 85
             (with_reducible refine HJ2.out.mono ?_)
             clear HJ2
             rintro _ w2 ⟨p2, rfl, ht2, hb2⟩
             have K2 := Lib.hid (KeepN.of hb2)
             have HB2 := Lib.hid (K2.out _ _ HB1.out)
             have BL2 := Lib.hid (BL1.out.trans (hb2.mono BL1.out.size))
             have HT2 := Lib.hid ht2
             clear ht2 hb2)
          | fail)
        all_goals (
          go_wp2
          go_ret
          exact ⟨_, rfl, by rw [HT.out]; exact HT2.out, BL2.out⟩))
end Go.Proofs.Ythcjbljkokflgaa.OC
/- Trees in memory (values: Int × ByteArray): turnRight. -/
namespace Go.Proofs.Ythcjbljkokflgaa.OC
open Go.RowKit
open Go.Lib
set_option linter.unusedVariables false
set_option linter.unusedSimpArgs false
set_option maxRecDepth 100000
set_option maxHeartbeats 8000000 in
theorem turnR_any {w : World} {l r : T} {pl pr : Option Addr} {b : Nat} {k : ByteArray} {v : Int × ByteArray} (hl : IsT w l pl) (hn : Nd w b k v) (hr : IsT w r pr) (hs : l.size + r.size ≤ 100000) (h2 : 2 ≤ l.size) :
    Calls Try.prog 87 #[.pointer pl, .pointer (some ⟨b, 0, none⟩), .pointer pr] w fun e w' => ∃ p, e = .returned (.pointer p) ∧ IsT w' (Tr.turnR l k v r) p ∧ Below w.heap.size w w' := by
  cases l with
  | nil => exact absurd h2 (by show ¬ 2 ≤ 0; omega)
  | node lk lv ll lr =>
    have HR := Lib.hid hr
    have HN := Lib.hid hn
    obtain ⟨lb, pll, plr, rfl, hB, hll, hlr⟩ := hl
    have cI : w.cell? ⟨lb, 5, none⟩ = some (.pointer plr) := hB.cell 5
    have cO : w.cell? ⟨lb, 4, none⟩ = some (.pointer pll) := hB.cell 4
    have HS1 := Lib.hid (size_any (hlr.keep (KeepN.drew w)))
    have HS2 := Lib.hid (size_any (hll.keep (KeepN.drew w)))
    have HI := Lib.hid hlr
    have HO := Lib.hid hll
    have HB := Lib.hid hB
    obtain ⟨m, hm⟩ : ∃ m, lr.size = m := ⟨_, rfl⟩
    obtain ⟨n, hn2⟩ : ∃ n, ll.size = n := ⟨_, rfl⟩
    have HM := Lib.hid hm
    have HNN := Lib.hid hn2
    have hs' : (n + 1 + m) + r.size ≤ 100000 := by rw [← hm, ← hn2]; exact hs
    have h2' : 2 ≤ n + 1 + m := by rw [← hm, ← hn2]; exact h2
    rw [hm] at HS1
    rw [hn2] at HS2
    have i1 : IntKind.i64.wrap (2 * (n : Int)) = 2 * (n : Int) := IntWalk.i64_in _ (by omega)
    have cOd : w.drew.cell? ⟨lb, 4, none⟩ = some (.pointer pll) := cO
    clear hr hn hB hll hlr hm hn2 hs h2
    go_enter Try.func87, Try.ntmps87
    go_wp2_with fail
    go_region_held3 (fun w' => w'.cell? ⟨lb, 4, none⟩ = some (.pointer pll)) (first | exact cOd) (first
      | (go_at_call 72
         (with_reducible refine HS1.out.mono ?_)
         clear HS1
         rintro _ wz ⟨rfl, hw0⟩
         replace hw0 := hw0.symm
         subst hw0)
      | (go_at_call 72
         (with_reducible refine HS2.out.mono ?_)
         clear HS2
         rintro _ wz ⟨rfl, hw0⟩
         replace hw0 := hw0.symm
         subst hw0)
      | fail)
    all_goals (
      by_cases hc : 2 * n ≤ m
      · cases lr with
        | nil =>
          exfalso
          have : 0 = m := HM.out
          omega
        | node ik iv il ir =>
          have HT := Lib.hid (show Tr.turnR (.node lk lv ll (.node ik iv il ir)) k v r = .node ik iv (.node lk lv ll il) (.node k v ir r) from by unfold Tr.turnR; simp only; rw [if_pos (by rw [HM.out, HNN.out]; exact hc)])
          obtain ⟨ib, pil, pir, rfl, hib, hil, hir⟩ := HI.out
          have hsi : il.size + 1 + ir.size = m := HM.out
          have hcI : (m : Int) ≥ 2 * (n : Int) := by omega
          have hj := join_any (b := lb) (HO.out.keep (KeepN.drew2 w)) (show Nd w.drew.drew lb lk lv from ⟨_, _, _, HB.out⟩) (hil.keep (KeepN.drew2 w)) (by rw [HNN.out]; omega)
          have HJ1 := Lib.hid hj
          have HIL := Lib.hid hil
          have HIR := Lib.hid hir
          have HIB := Lib.hid hib
          have e1 : w.drew.drew.cell? ⟨ib, 4, none⟩ = some (.pointer pil) := hib.cell 4
          have e2 : w.drew.drew.cell? ⟨ib, 5, none⟩ = some (.pointer pir) := hib.cell 5
          clear hib hil hir hj cI cO cOd
          go_wp2_with fail
          go_region_held3 (fun w' => w'.cell? ⟨ib, 4, none⟩ = some (.pointer pil) ∧ w'.cell? ⟨ib, 5, none⟩ = some (.pointer pir) ∧ w'.cell? ⟨lb, 4, none⟩ = some (.pointer pll)) (first | exact ⟨e1, e2, HB.out.cell 4⟩ | exact ⟨HIB1.out.cell 4, HIB1.out.cell 5, HB1.out.cell 4⟩ | exact ⟨HIB2.out.cell 4, HIB2.out.cell 5, HB2.out.cell 4⟩ | exact ⟨HIB3.out.cell 4, HIB3.out.cell 5, HB3.out.cell 4⟩) (first
            | (go_at_call 85
               (with_reducible refine HJ1.out.mono ?_)
               clear HJ1
               rintro _ w1 ⟨p1, rfl, ht1, hb1⟩
               have K1 := Lib.hid (KeepN.of (((Below.refl _ w).drew.drew).trans hb1))
               have HB1 := Lib.hid (K1.out _ _ HB.out)
               have HIB1 := Lib.hid (K1.out _ _ HIB.out)
               have HT1 := Lib.hid ht1
               have BL1 := Lib.hid (show Below w.heap.size w w1 from ((Below.refl _ w).drew.drew).trans hb1)
               have HJ2 := Lib.hid (join_any (HIR.out.keep K1.out) (HN.out.keep K1.out) (HR.out.keep K1.out) (by omega))
               clear ht1 hb1)
            | (go_at_call 85
               (with_reducible refine HJ2.out.mono ?_)
               clear HJ2
               rintro _ w2 ⟨p2, rfl, ht2, hb2⟩
               have K2 := Lib.hid (KeepN.of hb2)
               have HB2 := Lib.hid (K2.out _ _ HB1.out)
               have HIB2 := Lib.hid (K2.out _ _ HIB1.out)
               have BL2 := Lib.hid (BL1.out.trans (hb2.mono BL1.out.size))
               have HJ3 := Lib.hid (join_any (b := ib) (HT1.out.keep K2.out) (show Nd w2 ib ik iv from ⟨_, _, _, HIB2.out⟩) ht2 (by show ll.size + 1 + il.size + (ir.size + 1 + r.size) ≤ 1000000; rw [HNN.out]; omega))
               clear ht2 hb2)
            | (go_at_call 85
               (with_reducible refine HJ3.out.mono ?_)
               clear HJ3
               rintro _ w3 ⟨p3, rfl, ht3, hb3⟩
               have K3 := Lib.hid (KeepN.of hb3)
               have HB3 := Lib.hid (K3.out _ _ HB2.out)
               have HIB3 := Lib.hid (K3.out _ _ HIB2.out)
               have BL3 := Lib.hid (BL2.out.trans (hb3.mono BL2.out.size))
               have HT3 := Lib.hid ht3
               clear ht3 hb3)
            | fail)
          all_goals (
            go_wp2
            go_ret
            exact ⟨_, rfl, by rw [HT.out]; exact HT3.out, BL3.out⟩)
      · have HT := Lib.hid (show Tr.turnR (.node lk lv ll lr) k v r = .node lk lv ll (.node k v lr r) from by unfold Tr.turnR; simp only; rw [if_neg (by rw [HM.out, HNN.out]; exact hc)])
        have hcI : ¬ (m : Int) ≥ 2 * (n : Int) := by omega
        have hj := join_any (HI.out.keep (KeepN.drew2 w)) (HN.out.keep (KeepN.drew2 w)) (HR.out.keep (KeepN.drew2 w)) (by rw [HM.out]; omega)
        have HJ1 := Lib.hid hj
        have e1 : w.drew.drew.cell? ⟨lb, 5, none⟩ = some (.pointer plr) := cI
        clear hj cI cO cOd
        go_wp2_with fail
        go_region_held3 (fun w' => w'.cell? ⟨lb, 4, none⟩ = some (.pointer pll) ∧ w'.cell? ⟨lb, 5, none⟩ = some (.pointer plr)) (first | exact ⟨HB.out.cell 4, e1⟩ | exact ⟨HB1.out.cell 4, HB1.out.cell 5⟩ | exact ⟨HB2.out.cell 4, HB2.out.cell 5⟩) (first
          | (go_at_call 85
             (with_reducible refine HJ1.out.mono ?_)
             clear HJ1
             rintro _ w1 ⟨p1, rfl, ht1, hb1⟩
             have K1 := Lib.hid (KeepN.of (((Below.refl _ w).drew.drew).trans hb1))
             have HB1 := Lib.hid (K1.out _ _ HB.out)
             have BL1 := Lib.hid (show Below w.heap.size w w1 from ((Below.refl _ w).drew.drew).trans hb1)
             have HJ2 := Lib.hid (join_any (b := lb) (HO.out.keep K1.out) (show Nd w1 lb lk lv from ⟨_, _, _, HB1.out⟩) ht1 (by show ll.size + (lr.size + 1 + r.size) ≤ 1000000; rw [HNN.out, HM.out]; omega))
             clear ht1 hb1)
          | (go_at_call 85
             (with_reducible refine HJ2.out.mono ?_)
             clear HJ2
             rintro _ w2 ⟨p2, rfl, ht2, hb2⟩
             have K2 := Lib.hid (KeepN.of hb2)
             have HB2 := Lib.hid (K2.out _ _ HB1.out)
             have BL2 := Lib.hid (BL1.out.trans (hb2.mono BL1.out.size))
             have HT2 := Lib.hid ht2
             clear ht2 hb2)
          | fail)
        all_goals (
          go_wp2
          go_ret
          exact ⟨_, rfl, by rw [HT.out]; exact HT2.out, BL2.out⟩))
end Go.Proofs.Ythcjbljkokflgaa.OC
/- Trees in memory (values: Int × ByteArray): balance. -/
namespace Go.Proofs.Ythcjbljkokflgaa.OC
open Go.RowKit
open Go.Lib
set_option linter.unusedVariables false
set_option linter.unusedSimpArgs false
set_option maxRecDepth 100000
set_option maxHeartbeats 4000000 in
theorem bal_any {w : World} {l r : T} {pl pr : Option Addr} {b : Nat} {k : ByteArray} {v : Int × ByteArray} (hl : IsT w l pl) (hn : Nd w b k v) (hr : IsT w r pr) (hs : l.size + r.size ≤ 100000) :
    Calls Try.prog 73 #[.pointer pl, .pointer (some ⟨b, 0, none⟩), .pointer pr] w fun e w' => ∃ p, e = .returned (.pointer p) ∧ IsT w' (Tr.bal l k v r) p ∧ Below w.heap.size w w' := by
  have HS1 := Lib.hid (size_any hl)
  have HS2 := Lib.hid (size_any hr)
  have HJ := Lib.hid (join_any hl hn hr (by omega))
  have HTL := Lib.hid (fun h => turnL_any hl hn hr hs h)
  have HTR := Lib.hid (fun h => turnR_any hl hn hr hs h)
  have HE := Lib.hid (show Tr.bal l k v r = if l.size + r.size < 2 then .node k v l r else if 3 * l.size < r.size then Tr.turnL l k v r else if 3 * r.size < l.size then Tr.turnR l k v r else .node k v l r from rfl)
  obtain ⟨X, hX⟩ : ∃ X, Tr.bal l k v r = X := ⟨_, rfl⟩
  rw [hX] at HE ⊢
  obtain ⟨m, hm⟩ : ∃ m, l.size = m := ⟨_, rfl⟩
  obtain ⟨n, hn2⟩ : ∃ n, r.size = n := ⟨_, rfl⟩
  rw [hm, hn2] at HE hs
  rw [hm] at HS1 HTR
  rw [hn2] at HS2 HTL
  have i0 : IntKind.i64.wrap ((m : Int) + (n : Int)) = (m : Int) + (n : Int) := IntWalk.i64_in _ (by omega)
  have i1 : IntKind.i64.wrap (3 * (m : Int)) = 3 * (m : Int) := IntWalk.i64_in _ (by omega)
  have i2 : IntKind.i64.wrap (3 * (n : Int)) = 3 * (n : Int) := IntWalk.i64_in _ (by omega)
  clear hl hn hr hX hm hn2
  go_enter Try.func73, Try.ntmps73
  go_wp2_with fail
  refine HS1.out.mono ?_
  rintro _ wz ⟨rfl, hw0⟩
  replace hw0 := hw0.symm
  subst hw0
  go_wp2_with fail
  refine HS2.out.mono ?_
  rintro _ wz ⟨rfl, hw0⟩
  replace hw0 := hw0.symm
  subst hw0
  by_cases h1 : m + n < 2
  · have hX := HE.out
    rw [if_pos h1] at hX
    have h1I : (m : Int) + (n : Int) < 2 := by omega
    have HX := Lib.hid hX
    clear hX
    go_wp2_with fail
    refine HJ.out.mono ?_
    rintro _ w1 ⟨p, rfl, ht, hb⟩
    have HT := Lib.hid ht
    have HB := Lib.hid hb
    clear ht hb
    go_wp2
    go_ret
    exact ⟨_, rfl, by rw [HX.out]; exact HT.out, HB.out⟩
  · have h1I : ¬ (m : Int) + (n : Int) < 2 := by omega
    by_cases h2 : 3 * m < n
    · have hX := HE.out
      rw [if_neg h1, if_pos h2] at hX
      have h2I : 3 * (m : Int) < (n : Int) := by omega
      have HX := Lib.hid hX
      have HJ2 := Lib.hid (HTL.out (by omega))
      clear hX
      go_wp2_with fail
      refine HJ2.out.mono ?_
      rintro _ w1 ⟨p, rfl, ht, hb⟩
      have HT := Lib.hid ht
      have HB := Lib.hid hb
      clear ht hb
      go_wp2
      go_ret
      exact ⟨_, rfl, by rw [HX.out]; exact HT.out, HB.out⟩
    · have h2I : ¬ 3 * (m : Int) < (n : Int) := by omega
      by_cases h3 : 3 * n < m
      · have hX := HE.out
        rw [if_neg h1, if_neg h2, if_pos h3] at hX
        have h3I : 3 * (n : Int) < (m : Int) := by omega
        have HX := Lib.hid hX
        have HJ2 := Lib.hid (HTR.out (by omega))
        clear hX
        go_wp2_with fail
        refine HJ2.out.mono ?_
        rintro _ w1 ⟨p, rfl, ht, hb⟩
        have HT := Lib.hid ht
        have HB := Lib.hid hb
        clear ht hb
        go_wp2
        go_ret
        exact ⟨_, rfl, by rw [HX.out]; exact HT.out, HB.out⟩
      · have hX := HE.out
        rw [if_neg h1, if_neg h2, if_neg h3] at hX
        have h3I : ¬ 3 * (n : Int) < (m : Int) := by omega
        have HX := Lib.hid hX
        clear hX
        go_wp2_with fail
        refine HJ.out.mono ?_
        rintro _ w1 ⟨p, rfl, ht, hb⟩
        have HT := Lib.hid ht
        have HB := Lib.hid hb
        clear ht hb
        go_wp2
        go_ret
        exact ⟨_, rfl, by rw [HX.out]; exact HT.out, HB.out⟩
end Go.Proofs.Ythcjbljkokflgaa.OC
/- Trees in memory (values: Int × ByteArray): put. -/
namespace Go.Proofs.Ythcjbljkokflgaa.OC
open Go.RowKit
open Go.Lib
set_option linter.unusedVariables false
set_option linter.unusedSimpArgs false
set_option maxRecDepth 100000
set_option maxHeartbeats 8000000 in
theorem put_any (k : ByteArray) (v : Int × ByteArray) : ∀ {t : T} {w : World} {p : Option Addr}, IsT w t p → t.size ≤ 50000 →
    Calls Try.prog 59 #[.pointer p, .string k, .agg #[.int .i64 v.1, .string v.2]] w fun e w' => ∃ p', e = .returned (.pointer p') ∧ IsT w' (Tr.put k v t) p' ∧ Below w.heap.size w w' := by
  intro t
  induction t with
  | nil =>
    intro w p h hs
    obtain rfl : p = none := h
    have hbn := Blk.new (w.alloc (.cells #[.int .i64 v.1, .string v.2] 68)) 110 (ncs k v 1 none none)
    rw [World.size_alloc] at hbn
    have HBN := Lib.hid hbn
    clear hbn
    go_enter Try.func59, Try.ntmps59
    go_wp2
    go_ret
    exact ⟨_, rfl, ⟨w.heap.size + 1, none, none, rfl, HBN.out, rfl, rfl⟩, ((Below.refl _ w).alloc (Nat.le_refl _) _).alloc (by simp) _⟩
  | node k' v' l r ihl ihr =>
    intro w p h hs
    obtain ⟨W, hW⟩ : ∃ W, w.alloc (.cells #[.int .i64 v.1, .string v.2] 68) = W := ⟨_, rfl⟩
    have HBW := Lib.hid (show Below w.heap.size w W from hW ▸ (Below.refl _ w).alloc (Nat.le_refl _) _)
    have HX := Lib.hid (show Blk W w.heap.size 68 #[.int .i64 v.1, .string v.2] from hW ▸ Blk.new w 68 _)
    obtain ⟨b, pl, pr, rfl, hB, hl, hr⟩ := h.below HBW.out
    have hs' : l.size + 1 + r.size ≤ 50000 := hs
    have c0 : W.cell? ⟨b, 0, none⟩ = some (.string k') := hB.cell 0
    have c2 : W.cell? ⟨b, 3, none⟩ = some (.int .i64 ((l.size + 1 + r.size : Nat) : Int)) := hB.cell 3
    have c3 : W.cell? ⟨b, 4, none⟩ = some (.pointer pl) := hB.cell 4
    have c4 : W.cell? ⟨b, 5, none⟩ = some (.pointer pr) := hB.cell 5
    have x0 : W.cell? ⟨w.heap.size, 0, none⟩ = some (.int .i64 v.1) := HX.out.cell 0
    have x1 : W.cell? ⟨w.heap.size, 1, none⟩ = some (.string v.2) := HX.out.cell 1
    have e1 : W.drew.cell? ⟨b, 4, none⟩ = some (.pointer pl) := c3
    have e2 : W.drew.cell? ⟨b, 5, none⟩ = some (.pointer pr) := c4
    have HB := Lib.hid hB
    have HL := Lib.hid hl
    have HR := Lib.hid hr
    have hpl := Tr.size_put k v l
    have hpr := Tr.size_put k v r
    have IHL := Lib.hid (ihl (hl.keep (KeepN.drew W)) (by omega))
    have IHR := Lib.hid (ihr (hr.keep (KeepN.drew W)) (by omega))
    have HE := Lib.hid (show Tr.put k v (.node k' v' l r) = if klt k k' = true then Tr.bal (Tr.put k v l) k' v' r else if k = k' then .node k v l r else Tr.bal l k' v' (Tr.put k v r) from rfl)
    clear ihl ihr hB hl hr h
    by_cases hk : klt k k' = true
    · have hkb : Op.bytesLess k.toList k'.toList = true := hk
      have HEE := Lib.hid (HE.out.trans (if_pos hk))
      have IH1 := IHL
      clear HE hk IHL IHR
      go_enter Try.func59, Try.ntmps59
      go_wp2_with fail
      try rw [hW]
      go_region_held3 (fun w' => w'.cell? ⟨b, 4, none⟩ = some (.pointer pl) ∧ w'.cell? ⟨b, 5, none⟩ = some (.pointer pr) ∧ w'.cell? ⟨w.heap.size, 0, none⟩ = some (.int .i64 v.1) ∧ w'.cell? ⟨w.heap.size, 1, none⟩ = some (.string v.2)) (first | exact ⟨e1, e2, (HX.out.drew).cell 0, (HX.out.drew).cell 1⟩ | exact ⟨HB1.out.cell 4, HB1.out.cell 5, HX1.out.cell 0, HX1.out.cell 1⟩ | exact ⟨HB2.out.cell 4, HB2.out.cell 5, HX2.out.cell 0, HX2.out.cell 1⟩) (first
        | (go_at_call 59
           (with_reducible refine IH1.out.mono ?_)
           clear IH1
           rintro _ w1 ⟨p1, rfl, ht1, hb1⟩
           have K1 := Lib.hid (KeepN.of (((Below.refl _ W).drew).trans hb1))
           have HB1 := Lib.hid (K1.out _ _ HB.out)
           have BL1 := Lib.hid (show Below W.heap.size W w1 from ((Below.refl _ W).drew).trans hb1)
           have HX1 := Lib.hid (HX.out.below BL1.out HX.out.lt)
           have HJ2 := Lib.hid (bal_any (b := b) ht1 (show Nd w1 b k' v' from ⟨_, _, _, HB1.out⟩) (HR.out.keep K1.out) (by omega))
           clear ht1 hb1)
        | (go_at_call 73
           (with_reducible refine HJ2.out.mono ?_)
           clear HJ2
           rintro _ w2 ⟨p2, rfl, ht2, hb2⟩
           have K2 := Lib.hid (KeepN.of hb2)
           have HB2 := Lib.hid (K2.out _ _ HB1.out)
           have BL2 := Lib.hid (BL1.out.trans (hb2.mono BL1.out.size))
           have HX2 := Lib.hid (HX.out.below BL2.out HX.out.lt)
           have HT2 := Lib.hid ht2
           clear ht2 hb2)
        | fail)
      all_goals (
        go_wp2
        go_ret
        exact ⟨_, rfl, by rw [HEE.out]; exact HT2.out, HBW.out.trans (BL2.out.mono HBW.out.size)⟩)
    · have hkb : Op.bytesLess k.toList k'.toList = false := by have : klt k k' = false := by simpa using hk
                                                               exact this
      by_cases he : k = k'
      · have HEE := Lib.hid (HE.out.trans ((if_neg hk).trans (if_pos he)))
        subst he
        clear HE hk IHL IHR
        go_enter Try.func59, Try.ntmps59
        go_wp2_with fail
        try rw [hW]
        go_region
        all_goals (
          go_wp2
          go_ret
          refine ⟨_, rfl, ?_, ?_⟩
          · rw [HEE.out]
            refine ⟨W.heap.size, pl, pr, rfl, ?_, HL.out.keep ?_, HR.out.keep ?_⟩
            · have hsz : ((l.size + 1 + r.size : Nat) : Int) = (l.size : Int) + 1 + (r.size : Int) := by omega
              rw [hsz]
              exact (Blk.new W 110 _).drew
            · exact KeepN.of (((Below.refl _ W).alloc (Nat.le_refl _) _).drew)
            · exact KeepN.of (((Below.refl _ W).alloc (Nat.le_refl _) _).drew)
          · exact HBW.out.trans ((((Below.refl _ W).alloc (Nat.le_refl _) _).drew).mono HBW.out.size))
      · have HEE := Lib.hid (HE.out.trans ((if_neg hk).trans (if_neg he)))
        have heb : (k.toList == k'.toList) = false := by rw [keq]; exact decide_eq_false he
        have IH1 := IHR
        clear HE hk he IHL IHR
        go_enter Try.func59, Try.ntmps59
        go_wp2_with fail
        try rw [hW]
        go_region_held3 (fun w' => w'.cell? ⟨b, 4, none⟩ = some (.pointer pl) ∧ w'.cell? ⟨b, 5, none⟩ = some (.pointer pr) ∧ w'.cell? ⟨w.heap.size, 0, none⟩ = some (.int .i64 v.1) ∧ w'.cell? ⟨w.heap.size, 1, none⟩ = some (.string v.2)) (first | exact ⟨e1, e2, (HX.out.drew).cell 0, (HX.out.drew).cell 1⟩ | exact ⟨HB1.out.cell 4, HB1.out.cell 5, HX1.out.cell 0, HX1.out.cell 1⟩ | exact ⟨HB2.out.cell 4, HB2.out.cell 5, HX2.out.cell 0, HX2.out.cell 1⟩) (first
          | (go_at_call 59
             (with_reducible refine IH1.out.mono ?_)
             clear IH1
             rintro _ w1 ⟨p1, rfl, ht1, hb1⟩
             have K1 := Lib.hid (KeepN.of (((Below.refl _ W).drew).trans hb1))
             have HB1 := Lib.hid (K1.out _ _ HB.out)
             have BL1 := Lib.hid (show Below W.heap.size W w1 from ((Below.refl _ W).drew).trans hb1)
             have HX1 := Lib.hid (HX.out.below BL1.out HX.out.lt)
             have HJ2 := Lib.hid (bal_any (b := b) (HL.out.keep K1.out) (show Nd w1 b k' v' from ⟨_, _, _, HB1.out⟩) ht1 (by omega))
             clear ht1 hb1)
          | (go_at_call 73
             (with_reducible refine HJ2.out.mono ?_)
             clear HJ2
             rintro _ w2 ⟨p2, rfl, ht2, hb2⟩
             have K2 := Lib.hid (KeepN.of hb2)
             have HB2 := Lib.hid (K2.out _ _ HB1.out)
             have BL2 := Lib.hid (BL1.out.trans (hb2.mono BL1.out.size))
             have HX2 := Lib.hid (HX.out.below BL2.out HX.out.lt)
             have HT2 := Lib.hid ht2
             clear ht2 hb2)
          | fail)
        all_goals (
          go_wp2
          go_ret
          exact ⟨_, rfl, by rw [HEE.out]; exact HT2.out, HBW.out.trans (BL2.out.mono HBW.out.size)⟩)
  
end Go.Proofs.Ythcjbljkokflgaa.OC
namespace Go.Proofs.Ythcjbljkokflgaa.OC
open Go.RowKit
open Go.Lib
set_option linter.unusedVariables false
set_option linter.unusedSimpArgs false
set_option maxRecDepth 100000
def nodeSz (w : World) : Value → Nat
  | .pointer (some a) => match w.cell? ⟨a.block, 3, none⟩ with
    | some (.int _ n) => n.toNat
    | _ => 0
  | _ => 0
theorem nodeSz_of {w : World} {b : Nat} {k : ByteArray} {v : Int × ByteArray} {n : Nat} {pl pr : Option Addr} (h : Blk w b 110 (ncs k v ((n : Nat) : Int) pl pr)) : nodeSz w (.pointer (some ⟨b, 0, none⟩)) = n := by
  have h2 : w.cell? ⟨b, 3, none⟩ = some (.int .i64 (n : Int)) := h.cell 3
  show (match w.cell? ⟨b, 3, none⟩ with
    | some (.int _ n) => n.toNat
    | _ => 0) = n
  rw [h2]
  simp
theorem isz {w : World} {t : T} {p : Option Addr} (h : IsT w t p) : nodeSz w (.pointer p) = t.size := by
  cases t with
  | nil => obtain rfl : p = none := h; rfl
  | node k v l r =>
    obtain ⟨b, pl, pr, rfl, hb, _, _⟩ := h
    exact nodeSz_of hb
def DelOk (t : T) : Prop := ∀ (k : ByteArray) {w : World} {p : Option Addr}, IsT w t p → t.size ≤ 50000 →
  Calls Try.prog 58 #[.pointer p, .string k] w fun e w' => ∃ p', e = .returned (.pointer p') ∧ IsT w' (Tr.del t k) p' ∧ Below w.heap.size w w'
set_option maxHeartbeats 8000000 in
theorem glue_any {w : World} {l r : T} {pl pr : Option Addr} (hl : IsT w l pl) (hr : IsT w r pr) (hs : l.size + r.size ≤ 50000) (dl : DelOk l) (dr : DelOk r) :
    Calls Try.prog 74 #[.pointer pl, .pointer pr] w fun e w' => ∃ p', e = .returned (.pointer p') ∧ IsT w' (Tr.glueW l r (Tr.del l) (Tr.del r)) p' ∧ Below w.heap.size w w' := by
  have HL := Lib.hid hl
  have HR := Lib.hid hr
  cases l with
  | nil =>
    obtain rfl : pl = none := hl
    clear hr hs
    go_enter Try.func74, Try.ntmps74
    go_wp2
    go_ret
    exact ⟨_, rfl, HR.out, Below.refl _ _⟩
  | node lk lv ll lr =>
    cases r with
    | nil =>
      obtain rfl : pr = none := hr
      obtain ⟨lb, pll, plr, rfl, _, _, _⟩ := hl
      clear hs
      go_enter Try.func74, Try.ntmps74
      go_wp2
      go_ret
      exact ⟨_, rfl, HL.out, Below.refl _ _⟩
    | node rk rv rl rr =>
      have hs' : ll.size + 1 + lr.size + (rl.size + 1 + rr.size) ≤ 50000 := hs
      obtain ⟨lb, pll, plr, rfl, hlb, _, _⟩ := hl
      obtain ⟨rb, prl, prr, rfl, hrb, _, _⟩ := hr
      have c1 : w.cell? ⟨lb, 3, none⟩ = some (.int .i64 ((ll.size + 1 + lr.size : Nat) : Int)) := hlb.cell 3
      have c2 : w.cell? ⟨rb, 3, none⟩ = some (.int .i64 ((rl.size + 1 + rr.size : Nat) : Int)) := hrb.cell 3
      have HC0 := Lib.hid (show (Tr.node rk rv rl rr).size = rl.size + 1 + rr.size ∧ (Tr.node lk lv ll lr).size = ll.size + 1 + lr.size from ⟨rfl, rfl⟩)
      clear hlb hrb
      obtain ⟨m, hm⟩ : ∃ m : Nat, ll.size + 1 + lr.size = m := ⟨_, rfl⟩
      obtain ⟨n, hn⟩ : ∃ n : Nat, rl.size + 1 + rr.size = n := ⟨_, rfl⟩
      rw [hm] at c1
      rw [hn] at c2
      have HMN := Lib.hid (⟨hm, hn⟩ : _ ∧ _)
      go_enter Try.func74, Try.ntmps74
      by_cases hc : n < m
      · have hc0 : (Tr.node rk rv rl rr).size < (Tr.node lk lv ll lr).size := by rw [HC0.out.1, HC0.out.2]; omega
        have hcI : (m : Int) > (n : Int) := by omega
        clear hm hn
        go_wp2_with fail
        go_region
        all_goals (
          go_wp2_with fail
          go_loop [5] (fun q => ∃ (k : ByteArray) (v : Int × ByteArray) (a c : T) (pq : Option Addr), q = .pointer pq ∧ IsT w (.node k v a c) pq ∧ Tr.lst (.node k v a c) = Tr.lst (.node lk lv ll lr)) (fun q => nodeSz w q)
          case atStart => exact ⟨_, _, _, _, _, rfl, HL.out, rfl⟩
          case round =>
            obtain ⟨k, v, a, c, pq, rfl, ht, hq⟩ := hrel
            have HT := Lib.hid ht
            have HQ := Lib.hid hq
            obtain ⟨qb, pa, pc, rfl, hqb, ha, hc⟩ := ht
            have HQB := Lib.hid hqb
            have HA := Lib.hid ha
            have HC := Lib.hid hc
            have g0 : w.drew.cell? ⟨qb, 0, none⟩ = some (.string k) := hqb.cell 0
            have g1 : w.drew.cell? ⟨qb, 5, none⟩ = some (.pointer pc) := hqb.cell 5
            cases c with
            | nil =>
              obtain rfl : pc = none := hc
              have HX := Lib.hid (show Tr.lst (.node lk lv ll lr) = some (k, v) from HQ.out.symm.trans rfl)
              have hd := dl k (HL.out.keep (KeepN.drew w)) (by show _ + 1 + _ ≤ _; omega)
              have HD := Lib.hid hd
              clear hq hqb ha hd
              go_wp2_with (first
                | (go_at_call 58
                   (with_reducible refine HD.out.mono ?_)
                   clear HD
                   rintro _ w1 ⟨p1, rfl, ht1, hb1⟩
                   have K1 := Lib.hid (KeepN.of (((Below.refl _ w).drew).trans hb1))
                   have BL1 := Lib.hid (show Below w.heap.size w w1 from ((Below.refl _ w).drew).trans hb1)
                   have HB := Lib.hid (bal_any (b := qb) ht1 (show Nd w1 qb k v from ⟨_, _, _, K1.out _ _ HQB.out⟩) (HR.out.keep K1.out) (by have h1 := Tr.size_del (.node lk lv ll lr) k; have h2 : (Tr.node lk lv ll lr).size = ll.size + 1 + lr.size := rfl; have h3 : (Tr.node rk rv rl rr).size = rl.size + 1 + rr.size := rfl; omega))
                   clear ht1 hb1)
                | (go_at_call 73
                   (with_reducible refine HB.out.mono ?_)
                   clear HB
                   rintro _ w2 ⟨p2, rfl, ht2, hb2⟩
                   have BL2 := Lib.hid (BL1.out.trans (hb2.mono BL1.out.size))
                   have HT2 := Lib.hid ht2
                   clear ht2 hb2)
                | fail)
              go_ret
              refine ⟨_, rfl, ?_, BL2.out⟩
              have e : Tr.glueW (.node lk lv ll lr) (.node rk rv rl rr) (Tr.del (.node lk lv ll lr)) (Tr.del (.node rk rv rl rr)) = Tr.bal (Tr.del (.node lk lv ll lr) k) k v (.node rk rv rl rr) := by
                unfold Tr.glueW
                simp only
                rw [if_pos hc0, HX.out]
              rw [e]
              exact HT2.out
            | node k2 v2 a2 c2 =>
              obtain ⟨qc, pa2, pc2, rfl, hqc, _, _⟩ := hc
              have HM := Lib.hid (show nodeSz w (.pointer (some ⟨qb, 0, none⟩)) = _ ∧ nodeSz w (.pointer (some ⟨qc, 0, none⟩)) = _ from ⟨nodeSz_of HQB.out, nodeSz_of hqc⟩)
              clear hq hqb ha hqc
              go_wp2_with fail
              go_round
              case rel => exact ⟨k2, v2, a2, c2, _, rfl, HC.out, HQ.out⟩
              case measure =>
                rw [HM.out.1, HM.out.2]
                show a2.size + 1 + c2.size < a.size + 1 + (a2.size + 1 + c2.size)
                omega)
      · have hc0 : ¬ (Tr.node rk rv rl rr).size < (Tr.node lk lv ll lr).size := by rw [HC0.out.1, HC0.out.2]; omega
        have hcI : ¬ (m : Int) > (n : Int) := by omega
        clear hm hn
        go_wp2_with fail
        go_region
        all_goals (
          go_wp2_with fail
          go_loop [6] (fun q => ∃ (k : ByteArray) (v : Int × ByteArray) (a c : T) (pq : Option Addr), q = .pointer pq ∧ IsT w (.node k v a c) pq ∧ Tr.fst (.node k v a c) = Tr.fst (.node rk rv rl rr)) (fun q => nodeSz w q)
          case atStart => exact ⟨_, _, _, _, _, rfl, HR.out, rfl⟩
          case round =>
            obtain ⟨k, v, a, c, pq, rfl, ht, hq⟩ := hrel
            have HT := Lib.hid ht
            have HQ := Lib.hid hq
            obtain ⟨qb, pa, pc, rfl, hqb, ha, hc⟩ := ht
            have HQB := Lib.hid hqb
            have HA := Lib.hid ha
            have HC := Lib.hid hc
            have g0 : w.drew.cell? ⟨qb, 0, none⟩ = some (.string k) := hqb.cell 0
            have g1 : w.drew.cell? ⟨qb, 4, none⟩ = some (.pointer pa) := hqb.cell 4
            cases a with
            | nil =>
              obtain rfl : pa = none := ha
              have HX := Lib.hid (show Tr.fst (.node rk rv rl rr) = some (k, v) from HQ.out.symm.trans rfl)
              have hd := dr k (HR.out.keep (KeepN.drew w)) (by show _ + 1 + _ ≤ _; omega)
              have HD := Lib.hid hd
              clear hq hqb hc hd
              go_wp2_with (first
                | (go_at_call 58
                   (with_reducible refine HD.out.mono ?_)
                   clear HD
                   rintro _ w1 ⟨p1, rfl, ht1, hb1⟩
                   have K1 := Lib.hid (KeepN.of (((Below.refl _ w).drew).trans hb1))
                   have BL1 := Lib.hid (show Below w.heap.size w w1 from ((Below.refl _ w).drew).trans hb1)
                   have HB := Lib.hid (bal_any (b := qb) (HL.out.keep K1.out) (show Nd w1 qb k v from ⟨_, _, _, K1.out _ _ HQB.out⟩) ht1 (by have h1 := Tr.size_del (.node rk rv rl rr) k; have h2 : (Tr.node rk rv rl rr).size = rl.size + 1 + rr.size := rfl; have h3 : (Tr.node lk lv ll lr).size = ll.size + 1 + lr.size := rfl; omega))
                   clear ht1 hb1)
                | (go_at_call 73
                   (with_reducible refine HB.out.mono ?_)
                   clear HB
                   rintro _ w2 ⟨p2, rfl, ht2, hb2⟩
                   have BL2 := Lib.hid (BL1.out.trans (hb2.mono BL1.out.size))
                   have HT2 := Lib.hid ht2
                   clear ht2 hb2)
                | fail)
              go_ret
              refine ⟨_, rfl, ?_, BL2.out⟩
              have e : Tr.glueW (.node lk lv ll lr) (.node rk rv rl rr) (Tr.del (.node lk lv ll lr)) (Tr.del (.node rk rv rl rr)) = Tr.bal (.node lk lv ll lr) k v (Tr.del (.node rk rv rl rr) k) := by
                unfold Tr.glueW
                simp only
                rw [if_neg hc0, HX.out]
              rw [e]
              exact HT2.out
            | node k2 v2 a2 c2 =>
              obtain ⟨qc, pa2, pc2, rfl, hqc, _, _⟩ := ha
              have HM := Lib.hid (show nodeSz w (.pointer (some ⟨qb, 0, none⟩)) = _ ∧ nodeSz w (.pointer (some ⟨qc, 0, none⟩)) = _ from ⟨nodeSz_of HQB.out, nodeSz_of hqc⟩)
              clear hq hqb hc hqc
              go_wp2_with fail
              go_round
              case rel => exact ⟨k2, v2, a2, c2, _, rfl, HA.out, HQ.out⟩
              case measure =>
                rw [HM.out.1, HM.out.2]
                show a2.size + 1 + c2.size < a2.size + 1 + c2.size + 1 + c.size
                omega)
end Go.Proofs.Ythcjbljkokflgaa.OC
