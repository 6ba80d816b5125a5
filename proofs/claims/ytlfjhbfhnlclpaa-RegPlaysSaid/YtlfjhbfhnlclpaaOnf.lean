/- Trees in memory (values: Int): glue. -/
import Derived.Test.YtlfjhbfhnlclpaaOne
namespace Go.Proofs.Ytlfjhbfhnlclpaa.ON
open Go.RowKit
open Go.Lib
set_option linter.unusedVariables false
set_option linter.unusedSimpArgs false
set_option maxRecDepth 100000
def nodeSz (w : World) : Value → Nat
  | .pointer (some a) => match w.cell? ⟨a.block, 2, none⟩ with
    | some (.int _ n) => n.toNat
    | _ => 0
  | _ => 0
theorem nodeSz_of {w : World} {b : Nat} {k : ByteArray} {v : Int} {n : Nat} {pl pr : Option Addr} (h : Blk w b 65 (ncs k v ((n : Nat) : Int) pl pr)) : nodeSz w (.pointer (some ⟨b, 0, none⟩)) = n := by
  have h2 : w.cell? ⟨b, 2, none⟩ = some (.int .i64 (n : Int)) := h.cell 2
  show (match w.cell? ⟨b, 2, none⟩ with
    | some (.int _ n) => n.toNat
    | _ => 0) = n
  rw [h2]
  simp
theorem isz {w : World} {t : T} {p : Option Addr} (h : IsT w t p) : nodeSz w (.pointer p) = t.size := by
  cases t with
  | nil => obtain rfl : p = none := h; rfl
  | node k v l r =>
    obtain ⟨b, pl, pr, rfl, hb, _, _⟩ := h
    exact nodeSz_of hb
def DelOk (t : T) : Prop := ∀ (k : ByteArray) {w : World} {p : Option Addr}, IsT w t p → t.size ≤ 50000 →
  Calls Try.prog 45 #[.pointer p, .string k] w fun e w' => ∃ p', e = .returned (.pointer p') ∧ IsT w' (Tr.del t k) p' ∧ Below w.heap.size w w'
set_option maxHeartbeats 8000000 in
theorem glue_any {w : World} {l r : T} {pl pr : Option Addr} (hl : IsT w l pl) (hr : IsT w r pr) (hs : l.size + r.size ≤ 50000) (dl : DelOk l) (dr : DelOk r) :
    Calls Try.prog 59 #[.pointer pl, .pointer pr] w fun e w' => ∃ p', e = .returned (.pointer p') ∧ IsT w' (Tr.glueW l r (Tr.del l) (Tr.del r)) p' ∧ Below w.heap.size w w' := by
  have HL := Lib.hid hl
  have HR := Lib.hid hr
  cases l with
  | nil =>
    obtain rfl : pl = none := hl
    clear hr hs
    go_enter Try.func59, Try.ntmps59
    go_wp2
    go_ret
    exact ⟨_, rfl, HR.out, Below.refl _ _⟩
  | node lk lv ll lr =>
    cases r with
    | nil =>
      obtain rfl : pr = none := hr
      obtain ⟨lb, pll, plr, rfl, _, _, _⟩ := hl
      clear hs
      go_enter Try.func59, Try.ntmps59
      go_wp2
      go_ret
      exact ⟨_, rfl, HL.out, Below.refl _ _⟩
    | node rk rv rl rr =>
      have hs' : ll.size + 1 + lr.size + (rl.size + 1 + rr.size) ≤ 50000 := hs
      obtain ⟨lb, pll, plr, rfl, hlb, _, _⟩ := hl
      obtain ⟨rb, prl, prr, rfl, hrb, _, _⟩ := hr
      have c1 : w.cell? ⟨lb, 2, none⟩ = some (.int .i64 ((ll.size + 1 + lr.size : Nat) : Int)) := hlb.cell 2
      have c2 : w.cell? ⟨rb, 2, none⟩ = some (.int .i64 ((rl.size + 1 + rr.size : Nat) : Int)) := hrb.cell 2
      have HC0 := Lib.hid (show (Tr.node rk rv rl rr).size = rl.size + 1 + rr.size ∧ (Tr.node lk lv ll lr).size = ll.size + 1 + lr.size from ⟨rfl, rfl⟩)
      clear hlb hrb
      obtain ⟨m, hm⟩ : ∃ m : Nat, ll.size + 1 + lr.size = m := ⟨_, rfl⟩
      obtain ⟨n, hn⟩ : ∃ n : Nat, rl.size + 1 + rr.size = n := ⟨_, rfl⟩
      rw [hm] at c1
      rw [hn] at c2
      have HMN := Lib.hid (⟨hm, hn⟩ : _ ∧ _)
      go_enter Try.func59, Try.ntmps59
      by_cases hc : n < m
      · have hc0 : (Tr.node rk rv rl rr).size < (Tr.node lk lv ll lr).size := by rw [HC0.out.1, HC0.out.2]; omega
        have hcI : (m : Int) > (n : Int) := by omega
        clear hm hn
        go_wp2_with fail
        go_region
        all_goals (
          go_wp2_with fail
          go_loop [5] (fun q => ∃ (k : ByteArray) (v : Int) (a c : T) (pq : Option Addr), q = .pointer pq ∧ IsT w (.node k v a c) pq ∧ Tr.lst (.node k v a c) = Tr.lst (.node lk lv ll lr)) (fun q => nodeSz w q)
          case atStart => exact ⟨_, _, _, _, _, rfl, HL.out, rfl⟩
          case round =>
            obtain ⟨k, v, a, c, pq, rfl, ht, hq⟩ := hrel
            have HT := Lib.hid ht
            have HQ := Lib.hid hq
            obtain ⟨qb, pa, pc, rfl, hqb, ha, hc⟩ := ht
            have HQB := Lib.hid hqb
            have HA := Lib.hid ha
            have HC := Lib.hid hc
            have g0 : w.drew.cell? ⟨qb, 0, none⟩ = some (.string k) := hqb.cell 0
            have g1 : w.drew.cell? ⟨qb, 4, none⟩ = some (.pointer pc) := hqb.cell 4
            cases c with
            | nil =>
              obtain rfl : pc = none := hc
              have HX := Lib.hid (show Tr.lst (.node lk lv ll lr) = some (k, v) from HQ.out.symm.trans rfl)
              have hd := dl k (HL.out.keep (KeepN.drew w)) (by show _ + 1 + _ ≤ _; omega)
              have HD := Lib.hid hd
              clear hq hqb ha hd
              go_wp2_with (first
                | (go_at_call 45
                   (with_reducible refine HD.out.mono ?_)
                   clear HD
                   rintro _ w1 ⟨p1, rfl, ht1, hb1⟩
                   have K1 := Lib.hid (KeepN.of (((Below.refl _ w).drew).trans hb1))
                   have BL1 := Lib.hid (show Below w.heap.size w w1 from ((Below.refl _ w).drew).trans hb1)
                   have HB := Lib.hid (bal_any (b := qb) ht1 (show Nd w1 qb k v from ⟨_, _, _, K1.out _ _ HQB.out⟩) (HR.out.keep K1.out) (by have h1 := Tr.size_del (.node lk lv ll lr) k; have h2 : (Tr.node lk lv ll lr).size = ll.size + 1 + lr.size := rfl; have h3 : (Tr.node rk rv rl rr).size = rl.size + 1 + rr.size := rfl; omega))
                   clear ht1 hb1)
                | (go_at_call 58
                   (with_reducible refine HB.out.mono ?_)
                   clear HB
                   rintro _ w2 ⟨p2, rfl, ht2, hb2⟩
                   have BL2 := Lib.hid (BL1.out.trans (hb2.mono BL1.out.size))
                   have HT2 := Lib.hid ht2
                   clear ht2 hb2)
                | fail)
              go_ret
              refine ⟨_, rfl, ?_, BL2.out⟩
              have e : Tr.glueW (.node lk lv ll lr) (.node rk rv rl rr) (Tr.del (.node lk lv ll lr)) (Tr.del (.node rk rv rl rr)) = Tr.bal (Tr.del (.node lk lv ll lr) k) k v (.node rk rv rl rr) := by
                unfold Tr.glueW
                simp only
                rw [if_pos hc0, HX.out]
              rw [e]
              exact HT2.out
            | node k2 v2 a2 c2 =>
              obtain ⟨qc, pa2, pc2, rfl, hqc, _, _⟩ := hc
              have HM := Lib.hid (show nodeSz w (.pointer (some ⟨qb, 0, none⟩)) = _ ∧ nodeSz w (.pointer (some ⟨qc, 0, none⟩)) = _ from ⟨nodeSz_of HQB.out, nodeSz_of hqc⟩)
              clear hq hqb ha hqc
              go_wp2_with fail
              go_round
              case rel => exact ⟨k2, v2, a2, c2, _, rfl, HC.out, HQ.out⟩
              case measure =>
                rw [HM.out.1, HM.out.2]
                show a2.size + 1 + c2.size < a.size + 1 + (a2.size + 1 + c2.size)
                omega)
      · have hc0 : ¬ (Tr.node rk rv rl rr).size < (Tr.node lk lv ll lr).size := by rw [HC0.out.1, HC0.out.2]; omega
        have hcI : ¬ (m : Int) > (n : Int) := by omega
        clear hm hn
        go_wp2_with fail
        go_region
        all_goals (
          go_wp2_with fail
          go_loop [6] (fun q => ∃ (k : ByteArray) (v : Int) (a c : T) (pq : Option Addr), q = .pointer pq ∧ IsT w (.node k v a c) pq ∧ Tr.fst (.node k v a c) = Tr.fst (.node rk rv rl rr)) (fun q => nodeSz w q)
          case atStart => exact ⟨_, _, _, _, _, rfl, HR.out, rfl⟩
          case round =>
            obtain ⟨k, v, a, c, pq, rfl, ht, hq⟩ := hrel
            have HT := Lib.hid ht
            have HQ := Lib.hid hq
            obtain ⟨qb, pa, pc, rfl, hqb, ha, hc⟩ := ht
            have HQB := Lib.hid hqb
            have HA := Lib.hid ha
            have HC := Lib.hid hc
            have g0 : w.drew.cell? ⟨qb, 0, none⟩ = some (.string k) := hqb.cell 0
            have g1 : w.drew.cell? ⟨qb, 3, none⟩ = some (.pointer pa) := hqb.cell 3
            cases a with
            | nil =>
              obtain rfl : pa = none := ha
              have HX := Lib.hid (show Tr.fst (.node rk rv rl rr) = some (k, v) from HQ.out.symm.trans rfl)
              have hd := dr k (HR.out.keep (KeepN.drew w)) (by show _ + 1 + _ ≤ _; omega)
              have HD := Lib.hid hd
              clear hq hqb hc hd
              go_wp2_with (first
                | (go_at_call 45
                   (with_reducible refine HD.out.mono ?_)
                   clear HD
                   rintro _ w1 ⟨p1, rfl, ht1, hb1⟩
                   have K1 := Lib.hid (KeepN.of (((Below.refl _ w).drew).trans hb1))
                   have BL1 := Lib.hid (show Below w.heap.size w w1 from ((Below.refl _ w).drew).trans hb1)
                   have HB := Lib.hid (bal_any (b := qb) (HL.out.keep K1.out) (show Nd w1 qb k v from ⟨_, _, _, K1.out _ _ HQB.out⟩) ht1 (by have h1 := Tr.size_del (.node rk rv rl rr) k; have h2 : (Tr.node rk rv rl rr).size = rl.size + 1 + rr.size := rfl; have h3 : (Tr.node lk lv ll lr).size = ll.size + 1 + lr.size := rfl; omega))
                   clear ht1 hb1)
                | (go_at_call 58
                   (with_reducible refine HB.out.mono ?_)
                   clear HB
                   rintro _ w2 ⟨p2, rfl, ht2, hb2⟩
                   have BL2 := Lib.hid (BL1.out.trans (hb2.mono BL1.out.size))
                   have HT2 := Lib.hid ht2
                   clear ht2 hb2)
                | fail)
              go_ret
              refine ⟨_, rfl, ?_, BL2.out⟩
              have e : Tr.glueW (.node lk lv ll lr) (.node rk rv rl rr) (Tr.del (.node lk lv ll lr)) (Tr.del (.node rk rv rl rr)) = Tr.bal (.node lk lv ll lr) k v (Tr.del (.node rk rv rl rr) k) := by
                unfold Tr.glueW
                simp only
                rw [if_neg hc0, HX.out]
              rw [e]
              exact HT2.out
            | node k2 v2 a2 c2 =>
              obtain ⟨qc, pa2, pc2, rfl, hqc, _, _⟩ := ha
              have HM := Lib.hid (show nodeSz w (.pointer (some ⟨qb, 0, none⟩)) = _ ∧ nodeSz w (.pointer (some ⟨qc, 0, none⟩)) = _ from ⟨nodeSz_of HQB.out, nodeSz_of hqc⟩)
              clear hq hqb hc hqc
              go_wp2_with fail
              go_round
              case rel => exact ⟨k2, v2, a2, c2, _, rfl, HA.out, HQ.out⟩
              case measure =>
                rw [HM.out.1, HM.out.2]
                show a2.size + 1 + c2.size < a2.size + 1 + c2.size + 1 + c.size
                omega)
end Go.Proofs.Ytlfjhbfhnlclpaa.ON
