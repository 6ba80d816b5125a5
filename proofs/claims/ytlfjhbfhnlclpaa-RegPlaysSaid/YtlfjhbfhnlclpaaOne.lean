/- Trees in memory (values: Int): put. -/
import Derived.Test.YtlfjhbfhnlclpaaOnd
namespace Go.Proofs.Ytlfjhbfhnlclpaa.ON
open Go.RowKit
open Go.Lib
set_option linter.unusedVariables false
set_option linter.unusedSimpArgs false
set_option maxRecDepth 100000
set_option maxHeartbeats 8000000 in
theorem put_any (k : ByteArray) (v : Int) : ∀ {t : T} {w : World} {p : Option Addr}, IsT w t p → t.size ≤ 50000 →
    Calls Try.prog 44 #[.pointer p, .string k, .int .i64 v] w fun e w' => ∃ p', e = .returned (.pointer p') ∧ IsT w' (Tr.put k v t) p' ∧ Below w.heap.size w w' := by
  intro t
  induction t with
  | nil =>
    intro w p h hs
    obtain rfl : p = none := h
    go_enter Try.func44, Try.ntmps44
    go_wp2
    go_ret
    exact ⟨_, rfl, ⟨w.heap.size, none, none, rfl, Blk.new w 65 _, rfl, rfl⟩, (Below.refl _ w).alloc (Nat.le_refl _) _⟩
  | node k' v' l r ihl ihr =>
    intro w p h hs
    obtain ⟨b, pl, pr, rfl, hB, hl, hr⟩ := h
    have hs' : l.size + 1 + r.size ≤ 50000 := hs
    have c0 : w.cell? ⟨b, 0, none⟩ = some (.string k') := hB.cell 0
    have c2 : w.cell? ⟨b, 2, none⟩ = some (.int .i64 ((l.size + 1 + r.size : Nat) : Int)) := hB.cell 2
    have c3 : w.cell? ⟨b, 3, none⟩ = some (.pointer pl) := hB.cell 3
    have c4 : w.cell? ⟨b, 4, none⟩ = some (.pointer pr) := hB.cell 4
    have e1 : w.drew.cell? ⟨b, 3, none⟩ = some (.pointer pl) := c3
    have e2 : w.drew.cell? ⟨b, 4, none⟩ = some (.pointer pr) := c4
    have HB := Lib.hid hB
    have HL := Lib.hid hl
    have HR := Lib.hid hr
    have hpl := Tr.size_put k v l
    have hpr := Tr.size_put k v r
    have IHL := Lib.hid (ihl (hl.keep (KeepN.drew w)) (by omega))
    have IHR := Lib.hid (ihr (hr.keep (KeepN.drew w)) (by omega))
    have HE := Lib.hid (show Tr.put k v (.node k' v' l r) = if klt k k' = true then Tr.bal (Tr.put k v l) k' v' r else if k = k' then .node k v l r else Tr.bal l k' v' (Tr.put k v r) from rfl)
    clear ihl ihr hB hl hr
    by_cases hk : klt k k' = true
    · have hkb : Op.bytesLess k.toList k'.toList = true := hk
      have HEE := Lib.hid (HE.out.trans (if_pos hk))
      have IH1 := IHL
      clear HE hk IHL IHR
      go_enter Try.func44, Try.ntmps44
      go_wp2_with fail
      go_region_held3 (fun w' => w'.cell? ⟨b, 3, none⟩ = some (.pointer pl) ∧ w'.cell? ⟨b, 4, none⟩ = some (.pointer pr)) (first | exact ⟨e1, e2⟩ | exact ⟨HB1.out.cell 3, HB1.out.cell 4⟩ | exact ⟨HB2.out.cell 3, HB2.out.cell 4⟩) (first
        | (go_at_call 44
           (with_reducible refine IH1.out.mono ?_)
           clear IH1
           rintro _ w1 ⟨p1, rfl, ht1, hb1⟩
           have K1 := Lib.hid (KeepN.of (((Below.refl _ w).drew).trans hb1))
           have HB1 := Lib.hid (K1.out _ _ HB.out)
           have BL1 := Lib.hid (show Below w.heap.size w w1 from ((Below.refl _ w).drew).trans hb1)
           have HJ2 := Lib.hid (bal_any (b := b) ht1 (show Nd w1 b k' v' from ⟨_, _, _, HB1.out⟩) (HR.out.keep K1.out) (by omega))
           clear ht1 hb1)
        | (go_at_call 58
           (with_reducible refine HJ2.out.mono ?_)
           clear HJ2
           rintro _ w2 ⟨p2, rfl, ht2, hb2⟩
           have K2 := Lib.hid (KeepN.of hb2)
           have HB2 := Lib.hid (K2.out _ _ HB1.out)
           have BL2 := Lib.hid (BL1.out.trans (hb2.mono BL1.out.size))
           have HT2 := Lib.hid ht2
           clear ht2 hb2)
        | fail)
      all_goals (
        go_wp2
        go_ret
        exact ⟨_, rfl, by rw [HEE.out]; exact HT2.out, BL2.out⟩)
    · have hkb : Op.bytesLess k.toList k'.toList = false := by have : klt k k' = false := by simpa using hk
                                                               exact this
      by_cases he : k = k'
      · have HEE := Lib.hid (HE.out.trans ((if_neg hk).trans (if_pos he)))
        subst he
        clear HE hk IHL IHR
        go_enter Try.func44, Try.ntmps44
        go_wp2_with fail
        go_region
        all_goals (
          go_wp2
          go_ret
          refine ⟨_, rfl, ?_, ?_⟩
          · rw [HEE.out]
            refine ⟨w.heap.size, pl, pr, rfl, ?_, HL.out.keep ?_, HR.out.keep ?_⟩
            · have hsz : ((l.size + 1 + r.size : Nat) : Int) = (l.size : Int) + 1 + (r.size : Int) := by omega
              rw [hsz]
              exact (Blk.new w 65 _).drew
            · exact KeepN.of (((Below.refl _ w).alloc (Nat.le_refl _) _).drew)
            · exact KeepN.of (((Below.refl _ w).alloc (Nat.le_refl _) _).drew)
          · exact ((Below.refl _ w).alloc (Nat.le_refl _) _).drew)
      · have HEE := Lib.hid (HE.out.trans ((if_neg hk).trans (if_neg he)))
        have heb : (k.toList == k'.toList) = false := by rw [keq]; exact decide_eq_false he
        have IH1 := IHR
        clear HE hk he IHL IHR
        go_enter Try.func44, Try.ntmps44
        go_wp2_with fail
        go_region_held3 (fun w' => w'.cell? ⟨b, 3, none⟩ = some (.pointer pl) ∧ w'.cell? ⟨b, 4, none⟩ = some (.pointer pr)) (first | exact ⟨e1, e2⟩ | exact ⟨HB1.out.cell 3, HB1.out.cell 4⟩ | exact ⟨HB2.out.cell 3, HB2.out.cell 4⟩) (first
          | (go_at_call 44
             (with_reducible refine IH1.out.mono ?_)
             clear IH1
             rintro _ w1 ⟨p1, rfl, ht1, hb1⟩
             have K1 := Lib.hid (KeepN.of (((Below.refl _ w).drew).trans hb1))
             have HB1 := Lib.hid (K1.out _ _ HB.out)
             have BL1 := Lib.hid (show Below w.heap.size w w1 from ((Below.refl _ w).drew).trans hb1)
             have HJ2 := Lib.hid (bal_any (b := b) (HL.out.keep K1.out) (show Nd w1 b k' v' from ⟨_, _, _, HB1.out⟩) ht1 (by omega))
             clear ht1 hb1)
          | (go_at_call 58
             (with_reducible refine HJ2.out.mono ?_)
             clear HJ2
             rintro _ w2 ⟨p2, rfl, ht2, hb2⟩
             have K2 := Lib.hid (KeepN.of hb2)
             have HB2 := Lib.hid (K2.out _ _ HB1.out)
             have BL2 := Lib.hid (BL1.out.trans (hb2.mono BL1.out.size))
             have HT2 := Lib.hid ht2
             clear ht2 hb2)
          | fail)
        all_goals (
          go_wp2
          go_ret
          exact ⟨_, rfl, by rw [HEE.out]; exact HT2.out, BL2.out⟩)
  
end Go.Proofs.Ytlfjhbfhnlclpaa.ON
