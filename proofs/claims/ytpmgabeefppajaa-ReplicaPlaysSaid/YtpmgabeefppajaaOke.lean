/- Trees in memory (values: Int × ByteArray): put. -/
import Derived.Test.YtpmgabeefppajaaOkd
namespace Go.Proofs.Ytpmgabeefppajaa.OK
open Go.RowKit
open Go.Lib
set_option linter.unusedVariables false
set_option linter.unusedSimpArgs false
set_option maxRecDepth 100000
set_option maxHeartbeats 8000000 in
theorem put_any (k : ByteArray) (v : Int × ByteArray) : ∀ {t : T} {w : World} {p : Option Addr}, IsT w t p → t.size ≤ 50000 →
    Calls Try.prog 49 #[.pointer p, .string k, .agg #[.int .i64 v.1, .string v.2]] w fun e w' => ∃ p', e = .returned (.pointer p') ∧ IsT w' (Tr.put k v t) p' ∧ Below w.heap.size w w' := by
  intro t
  induction t with
  | nil =>
    intro w p h hs
    obtain rfl : p = none := h
    have hbn := Blk.new (w.alloc (.cells #[.int .i64 v.1, .string v.2] 65)) 110 (ncs k v 1 none none)
    rw [World.size_alloc] at hbn
    have HBN := Lib.hid hbn
    clear hbn
    go_enter Try.func49, Try.ntmps49
    go_wp2
    go_ret
    exact ⟨_, rfl, ⟨w.heap.size + 1, none, none, rfl, HBN.out, rfl, rfl⟩, ((Below.refl _ w).alloc (Nat.le_refl _) _).alloc (by simp) _⟩
  | node k' v' l r ihl ihr =>
    intro w p h hs
    obtain ⟨W, hW⟩ : ∃ W, w.alloc (.cells #[.int .i64 v.1, .string v.2] 65) = W := ⟨_, rfl⟩
    have HBW := Lib.hid (show Below w.heap.size w W from hW ▸ (Below.refl _ w).alloc (Nat.le_refl _) _)
    have HX := Lib.hid (show Blk W w.heap.size 65 #[.int .i64 v.1, .string v.2] from hW ▸ Blk.new w 65 _)
    obtain ⟨b, pl, pr, rfl, hB, hl, hr⟩ := h.below HBW.out
    have hs' : l.size + 1 + r.size ≤ 50000 := hs
    have c0 : W.cell? ⟨b, 0, none⟩ = some (.string k') := hB.cell 0
    have c2 : W.cell? ⟨b, 3, none⟩ = some (.int .i64 ((l.size + 1 + r.size : Nat) : Int)) := hB.cell 3
    have c3 : W.cell? ⟨b, 4, none⟩ = some (.pointer pl) := hB.cell 4
    have c4 : W.cell? ⟨b, 5, none⟩ = some (.pointer pr) := hB.cell 5
    have x0 : W.cell? ⟨w.heap.size, 0, none⟩ = some (.int .i64 v.1) := HX.out.cell 0
    have x1 : W.cell? ⟨w.heap.size, 1, none⟩ = some (.string v.2) := HX.out.cell 1
    have e1 : W.drew.cell? ⟨b, 4, none⟩ = some (.pointer pl) := c3
    have e2 : W.drew.cell? ⟨b, 5, none⟩ = some (.pointer pr) := c4
    have HB := Lib.hid hB
    have HL := Lib.hid hl
    have HR := Lib.hid hr
    have hpl := Tr.size_put k v l
    have hpr := Tr.size_put k v r
    have IHL := Lib.hid (ihl (hl.keep (KeepN.drew W)) (by omega))
    have IHR := Lib.hid (ihr (hr.keep (KeepN.drew W)) (by omega))
    have HE := Lib.hid (show Tr.put k v (.node k' v' l r) = if klt k k' = true then Tr.bal (Tr.put k v l) k' v' r else if k = k' then .node k v l r else Tr.bal l k' v' (Tr.put k v r) from rfl)
    clear ihl ihr hB hl hr h
    by_cases hk : klt k k' = true
    · have hkb : Op.bytesLess k.toList k'.toList = true := hk
      have HEE := Lib.hid (HE.out.trans (if_pos hk))
      have IH1 := IHL
      clear HE hk IHL IHR
      go_enter Try.func49, Try.ntmps49
      go_wp2_with fail
      try rw [hW]
      go_region_held3 (fun w' => w'.cell? ⟨b, 4, none⟩ = some (.pointer pl) ∧ w'.cell? ⟨b, 5, none⟩ = some (.pointer pr) ∧ w'.cell? ⟨w.heap.size, 0, none⟩ = some (.int .i64 v.1) ∧ w'.cell? ⟨w.heap.size, 1, none⟩ = some (.string v.2)) (first | exact ⟨e1, e2, (HX.out.drew).cell 0, (HX.out.drew).cell 1⟩ | exact ⟨HB1.out.cell 4, HB1.out.cell 5, HX1.out.cell 0, HX1.out.cell 1⟩ | exact ⟨HB2.out.cell 4, HB2.out.cell 5, HX2.out.cell 0, HX2.out.cell 1⟩) (first
        | (go_at_call 49
           (with_reducible refine IH1.out.mono ?_)
           clear IH1
           rintro _ w1 ⟨p1, rfl, ht1, hb1⟩
           have K1 := Lib.hid (KeepN.of (((Below.refl _ W).drew).trans hb1))
           have HB1 := Lib.hid (K1.out _ _ HB.out)
           have BL1 := Lib.hid (show Below W.heap.size W w1 from ((Below.refl _ W).drew).trans hb1)
           have HX1 := Lib.hid (HX.out.below BL1.out HX.out.lt)
           have HJ2 := Lib.hid (bal_any (b := b) ht1 (show Nd w1 b k' v' from ⟨_, _, _, HB1.out⟩) (HR.out.keep K1.out) (by omega))
           clear ht1 hb1)
        | (go_at_call 61
           (with_reducible refine HJ2.out.mono ?_)
           clear HJ2
           rintro _ w2 ⟨p2, rfl, ht2, hb2⟩
           have K2 := Lib.hid (KeepN.of hb2)
           have HB2 := Lib.hid (K2.out _ _ HB1.out)
           have BL2 := Lib.hid (BL1.out.trans (hb2.mono BL1.out.size))
           have HX2 := Lib.hid (HX.out.below BL2.out HX.out.lt)
           have HT2 := Lib.hid ht2
           clear ht2 hb2)
        | fail)
      all_goals (
        go_wp2
        go_ret
        exact ⟨_, rfl, by rw [HEE.out]; exact HT2.out, HBW.out.trans (BL2.out.mono HBW.out.size)⟩)
    · have hkb : Op.bytesLess k.toList k'.toList = false := by have : klt k k' = false := by simpa using hk
                                                               exact this
      by_cases he : k = k'
      · have HEE := Lib.hid (HE.out.trans ((if_neg hk).trans (if_pos he)))
        subst he
        clear HE hk IHL IHR
        go_enter Try.func49, Try.ntmps49
        go_wp2_with fail
        try rw [hW]
        go_region
        all_goals (
          go_wp2
          go_ret
          refine ⟨_, rfl, ?_, ?_⟩
          · rw [HEE.out]
            refine ⟨W.heap.size, pl, pr, rfl, ?_, HL.out.keep ?_, HR.out.keep ?_⟩
            · have hsz : ((l.size + 1 + r.size : Nat) : Int) = (l.size : Int) + 1 + (r.size : Int) := by omega
              rw [hsz]
              exact (Blk.new W 110 _).drew
            · exact KeepN.of (((Below.refl _ W).alloc (Nat.le_refl _) _).drew)
            · exact KeepN.of (((Below.refl _ W).alloc (Nat.le_refl _) _).drew)
          · exact HBW.out.trans ((((Below.refl _ W).alloc (Nat.le_refl _) _).drew).mono HBW.out.size))
      · have HEE := Lib.hid (HE.out.trans ((if_neg hk).trans (if_neg he)))
        have heb : (k.toList == k'.toList) = false := by rw [keq]; exact decide_eq_false he
        have IH1 := IHR
        clear HE hk he IHL IHR
        go_enter Try.func49, Try.ntmps49
        go_wp2_with fail
        try rw [hW]
        go_region_held3 (fun w' => w'.cell? ⟨b, 4, none⟩ = some (.pointer pl) ∧ w'.cell? ⟨b, 5, none⟩ = some (.pointer pr) ∧ w'.cell? ⟨w.heap.size, 0, none⟩ = some (.int .i64 v.1) ∧ w'.cell? ⟨w.heap.size, 1, none⟩ = some (.string v.2)) (first | exact ⟨e1, e2, (HX.out.drew).cell 0, (HX.out.drew).cell 1⟩ | exact ⟨HB1.out.cell 4, HB1.out.cell 5, HX1.out.cell 0, HX1.out.cell 1⟩ | exact ⟨HB2.out.cell 4, HB2.out.cell 5, HX2.out.cell 0, HX2.out.cell 1⟩) (first
          | (go_at_call 49
             (with_reducible refine IH1.out.mono ?_)
             clear IH1
             rintro _ w1 ⟨p1, rfl, ht1, hb1⟩
             have K1 := Lib.hid (KeepN.of (((Below.refl _ W).drew).trans hb1))
             have HB1 := Lib.hid (K1.out _ _ HB.out)
             have BL1 := Lib.hid (show Below W.heap.size W w1 from ((Below.refl _ W).drew).trans hb1)
             have HX1 := Lib.hid (HX.out.below BL1.out HX.out.lt)
             have HJ2 := Lib.hid (bal_any (b := b) (HL.out.keep K1.out) (show Nd w1 b k' v' from ⟨_, _, _, HB1.out⟩) ht1 (by omega))
             clear ht1 hb1)
          | (go_at_call 61
             (with_reducible refine HJ2.out.mono ?_)
             clear HJ2
             rintro _ w2 ⟨p2, rfl, ht2, hb2⟩
             have K2 := Lib.hid (KeepN.of hb2)
             have HB2 := Lib.hid (K2.out _ _ HB1.out)
             have BL2 := Lib.hid (BL1.out.trans (hb2.mono BL1.out.size))
             have HX2 := Lib.hid (HX.out.below BL2.out HX.out.lt)
             have HT2 := Lib.hid ht2
             clear ht2 hb2)
          | fail)
        all_goals (
          go_wp2
          go_ret
          exact ⟨_, rfl, by rw [HEE.out]; exact HT2.out, HBW.out.trans (BL2.out.mono HBW.out.size)⟩)
  
end Go.Proofs.Ytpmgabeefppajaa.OK
