/- Maps over trees (values: Int): Len, Get, Place, At. -/
import Derived.Test.YtlfjhbfhnlclpaaOng
namespace Go.Proofs.Ytlfjhbfhnlclpaa.ON
open Go.RowKit
open Go.Lib
set_option linter.unusedVariables false
set_option linter.unusedSimpArgs false
set_option maxRecDepth 100000
def ov (o : Option (Int)) : Value := .int .i64 (o.getD 0)
theorem nodeSz_nil (w : World) : nodeSz w (.pointer none) = 0 := rfl
/-- A map: its box, and the tree. -/
def Mt (w : World) (g : Nat) (t : T) : Prop := ∃ p, Blk w g 63 #[.pointer p] ∧ IsT w t p
theorem Mt.below {w w' : World} {g : Nat} {t : T} (h : Mt w g t) (hb : Below w.heap.size w w') : Mt w' g t := by
  obtain ⟨p, h1, h2⟩ := h
  exact ⟨p, h1.below hb h1.lt, h2.below hb⟩
theorem len_any {w : World} {g : Nat} {t : T} (h : Mt w g t) : Calls Try.prog 30 #[.pointer (some ⟨g, 0, none⟩)] w fun e w' => e = .returned (.int .i64 (t.size : Int)) ∧ w' = w := by
  obtain ⟨p, h1, h2⟩ := h
  have c0 : w.cell? ⟨g, 0, none⟩ = some (.pointer p) := h1.cell 0
  have HS := Lib.hid (size_any h2)
  clear h1 h2
  go_enter Try.func30, Try.ntmps30
  go_wp2_with fail
  refine HS.out.mono ?_
  rintro _ wz ⟨rfl, hw0⟩
  replace hw0 := hw0.symm
  subst hw0
  go_wp2
  go_ret
  exact ⟨rfl, rfl⟩
set_option maxHeartbeats 4000000 in
theorem get_any {w : World} {g : Nat} {t : T} (h : Mt w g t) (k : ByteArray) : Calls Try.prog 29 #[.pointer (some ⟨g, 0, none⟩), .string k] w fun e w' => e = .returned (.tuple #[ov (Tr.get k t), .bool (Tr.get k t).isSome]) ∧ w' = w := by
  obtain ⟨p, h1, h2⟩ := h
  have c0 : w.cell? ⟨g, 0, none⟩ = some (.pointer p) := h1.cell 0
  have HT := Lib.hid h2
  obtain ⟨o, ho⟩ : ∃ o, Tr.get k t = o := ⟨_, rfl⟩
  have HO := Lib.hid ho
  rw [ho]
  clear h1 h2 ho
  go_enter Try.func29, Try.ntmps29
  go_wp2_with fail
  go_loop [6] (fun q => ∃ (t' : T) (pq : Option Addr), q = .pointer pq ∧ IsT w t' pq ∧ Tr.get k t' = o) (fun q => nodeSz w q)
  case atStart => exact ⟨_, _, rfl, HT.out, HO.out⟩
  case round =>
    obtain ⟨t', pq, rfl, ht, hg⟩ := hrel
    have HG := Lib.hid hg
    cases t' with
    | nil =>
      obtain rfl : pq = none := ht
      obtain rfl : o = none := HG.out.symm
      clear hg
      go_wp2
      go_ret2
      exact ⟨rfl, rfl⟩
    | node k' v' l r =>
      obtain ⟨b, pl, pr, rfl, hB, hl, hr⟩ := ht
      have d0 : w.cell? ⟨b, 0, none⟩ = some (.string k') := hB.cell 0
      have d1 : w.cell? ⟨b, 1, none⟩ = some (.int .i64 v') := hB.cell 1
      have d3 : w.cell? ⟨b, 3, none⟩ = some (.pointer pl) := hB.cell 3
      have d4 : w.cell? ⟨b, 4, none⟩ = some (.pointer pr) := hB.cell 4
      have HM := Lib.hid (show nodeSz w (.pointer (some ⟨b, 0, none⟩)) = _ from nodeSz_of hB)
      have HL := Lib.hid hl
      have HR := Lib.hid hr
      have HGE := Lib.hid (show (if klt k k' = true then Tr.get k l else if k = k' then some v' else Tr.get k r) = o from hg)
      have HLM := Lib.hid (isz hl)
      have HRM := Lib.hid (isz hr)
      clear hg hB hl hr HG
      by_cases hk : klt k k' = true
      · have hkb : Op.bytesLess k.toList k'.toList = true := hk
        have HG2 := Lib.hid ((if_pos hk).symm.trans HGE.out)
        clear hk
        go_wp2_with fail
        go_round
        case rel => exact ⟨l, _, rfl, HL.out, HG2.out⟩
        case measure => rw [HM.out, HLM.out]; omega
      · have hkb : Op.bytesLess k.toList k'.toList = false := by have : klt k k' = false := by simpa using hk
                                                                 exact this
        by_cases he : k = k'
        · have HG2 := Lib.hid ((if_pos he).symm.trans ((if_neg hk).symm.trans HGE.out))
          subst he
          clear hk
          have hoo := HG2.out
          subst hoo
          go_wp2
          go_ret2
          exact ⟨rfl, rfl⟩
        · have HG2 := Lib.hid ((if_neg he).symm.trans ((if_neg hk).symm.trans HGE.out))
          have heb : (k.toList == k'.toList) = false := by rw [keq]; exact decide_eq_false he
          clear hk he
          go_wp2_with fail
          go_round
          case rel => exact ⟨r, _, rfl, HR.out, HG2.out⟩
          case measure => rw [HM.out, HRM.out]; omega
end Go.Proofs.Ytlfjhbfhnlclpaa.ON
