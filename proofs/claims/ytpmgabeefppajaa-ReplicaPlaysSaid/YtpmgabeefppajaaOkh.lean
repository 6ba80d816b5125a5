/- Maps over trees (values: Int × ByteArray): Len, Get, Place, At. -/
import Derived.Test.YtpmgabeefppajaaOkg
namespace Go.Proofs.Ytpmgabeefppajaa.OK
open Go.RowKit
open Go.Lib
set_option linter.unusedVariables false
set_option linter.unusedSimpArgs false
set_option maxRecDepth 100000
def ov (o : Option (Int × ByteArray)) : Value := .agg #[.int .i64 (o.getD (0, .empty)).1, .string (o.getD (0, .empty)).2]
theorem nodeSz_nil (w : World) : nodeSz w (.pointer none) = 0 := rfl
/-- A map: its box, and the tree. -/
def Mt (w : World) (g : Nat) (t : T) : Prop := ∃ p, Blk w g 103 #[.pointer p] ∧ IsT w t p
theorem Mt.below {w w' : World} {g : Nat} {t : T} (h : Mt w g t) (hb : Below w.heap.size w w') : Mt w' g t := by
  obtain ⟨p, h1, h2⟩ := h
  exact ⟨p, h1.below hb h1.lt, h2.below hb⟩
theorem len_any {w : World} {g : Nat} {t : T} (h : Mt w g t) : Calls Try.prog 34 #[.pointer (some ⟨g, 0, none⟩)] w fun e w' => e = .returned (.int .i64 (t.size : Int)) ∧ w' = w := by
  obtain ⟨p, h1, h2⟩ := h
  have c0 : w.cell? ⟨g, 0, none⟩ = some (.pointer p) := h1.cell 0
  have HS := Lib.hid (size_any h2)
  clear h1 h2
  go_enter Try.func34, Try.ntmps34
  go_wp2_with fail
  refine HS.out.mono ?_
  rintro _ wz ⟨rfl, hw0⟩
  replace hw0 := hw0.symm
  subst hw0
  go_wp2
  go_ret
  exact ⟨rfl, rfl⟩
theorem results_cell1 {fn : Func} {p u : Tmp} {ty : TypeId} (h : fn.results = #[.cell p ty, .tmp u]) (tmps : Array Value) (P : Program) (w : World) (g : Nat) (t : TypeId) (cs : Array Value) (fr : Nat × Nat) (fs : Array Field)
    (hp : tmps.getD p undef = .pointer (some ⟨g, 0, none⟩)) (hg : w.heap[g]? = some (.cells cs t fr))
    (hu : P.underlying ty = some (.struct fs)) (hi : (P.info? ty).map (·.size) = some cs.size) :
    (results fn tmps).run P w = .ok (.tuple #[.agg cs, tmps.getD u undef]) w := by
  have hp' : tmps[p]?.getD undef = .pointer (some ⟨g, 0, none⟩) := by simpa using hp
  simp [results, h, hp', asAddr, run_loadVar_row w g t ty cs fr _ hg hu rfl hi]
theorem get_out {cs : Array Value} (hc : cs.size = 2) {R : Ending → World → Prop} {a : Act} {w : World} {g : Nat} (h2 : a.tmps.getD 4 undef = .pointer (some ⟨g, 0, none⟩)) (hd : a.defers = []) (hg : Blk w g 65 cs)
    (hR : R (.returned (.tuple #[.agg cs, a.tmps.getD 5 undef])) w) : bodyPost Try.prog Try.f33 R .ret a w :=
  bodyPost_ret (results_cell1 (fn := Try.f33) rfl a.tmps Try.prog w g 65 cs (0, 0) _ h2 hg Try.underlying65 (by rw [hc]; rfl)) hd hR
set_option maxHeartbeats 4000000 in
theorem get_any {w : World} {g : Nat} {t : T} (h : Mt w g t) (k : ByteArray) : Calls Try.prog 33 #[.pointer (some ⟨g, 0, none⟩), .string k] w fun e w' => e = .returned (.tuple #[ov (Tr.get k t), .bool (Tr.get k t).isSome]) ∧ Below w.heap.size w w' := by
  obtain ⟨W, hW⟩ : ∃ W, w.alloc (.cells #[.int .i64 0, .string { data := #[] }] 65) = W := ⟨_, rfl⟩
  have HBW := Lib.hid (show Below w.heap.size w W from hW ▸ (Below.refl _ w).alloc (Nat.le_refl _) _)
  have HX := Lib.hid (show Blk W w.heap.size 65 #[.int .i64 0, .string .empty] from hW ▸ Blk.new w 65 _)
  have hsW : W.heap.size = w.heap.size + 1 := by rw [← hW]; simp
  have HSW := Lib.hid hsW
  clear hsW
  obtain ⟨p, h1, h2⟩ := h.below HBW.out
  have c0 : W.cell? ⟨g, 0, none⟩ = some (.pointer p) := h1.cell 0
  have x0 : W.cell? ⟨w.heap.size, 0, none⟩ = some (.int .i64 0) := HX.out.cell 0
  have x1 : W.cell? ⟨w.heap.size, 1, none⟩ = some (.string .empty) := HX.out.cell 1
  have f0 := HX.out.frozen 0
  have f1 := HX.out.frozen 1
  have HT := Lib.hid h2
  obtain ⟨o, ho⟩ : ∃ o, Tr.get k t = o := ⟨_, rfl⟩
  have HO := Lib.hid ho
  rw [ho]
  clear h h1 h2 ho
  go_enter Try.func33, Try.ntmps33
  go_wp2_with fail
  try rw [hW]
  go_loop [6] (fun q => ∃ (t' : T) (pq : Option Addr), q = .pointer pq ∧ IsT W t' pq ∧ Tr.get k t' = o) (fun q => nodeSz W q)
  case atStart => exact ⟨_, _, rfl, HT.out, HO.out⟩
  case round =>
    obtain ⟨t', pq, rfl, ht, hg⟩ := hrel
    have HG := Lib.hid hg
    cases t' with
    | nil =>
      obtain rfl : pq = none := ht
      obtain rfl : o = none := HG.out.symm
      clear hg
      obtain ⟨W2, hW2⟩ : ∃ W2, W.alloc (.cells #[.int .i64 0, .string { data := #[] }] 65) = W2 := ⟨_, rfl⟩
      have HB2 := Lib.hid (show Below W.heap.size W W2 from hW2 ▸ (Below.refl _ W).alloc (Nat.le_refl _) _)
      have hY : Blk W2 W.heap.size 65 #[.int .i64 0, .string .empty] := hW2 ▸ Blk.new W 65 _
      have HX2 := Lib.hid (HX.out.below HB2.out (by rw [HSW.out]; omega))
      have y0 : W2.cell? ⟨W.heap.size, 0, none⟩ = some (.int .i64 0) := hY.cell 0
      have y1 : W2.cell? ⟨W.heap.size, 1, none⟩ = some (.string .empty) := hY.cell 1
      have z0 : W2.cell? ⟨w.heap.size, 0, none⟩ = some (.int .i64 0) := HX2.out.cell 0
      have z1 : W2.cell? ⟨w.heap.size, 1, none⟩ = some (.string .empty) := HX2.out.cell 1
      have e0 := HX2.out.frozen 0
      have e1 := HX2.out.frozen 1
      have HBT := Lib.hid (HBW.out.trans (HB2.out.mono (by rw [HSW.out]; omega)))
      clear hY
      go_wp2
      exact get_out (cs := #[.int .i64 0, .string .empty]) (g := w.heap.size) rfl rfl rfl ((HX2.out.set_ 0 _).set_ 1 _) ⟨rfl, (HBT.out.setCell (p := ⟨w.heap.size, 0, none⟩) (Nat.le_refl _) _).setCell (p := ⟨w.heap.size, 1, none⟩) (Nat.le_refl _) _⟩
    | node k' v' l r =>
      obtain ⟨b, pl, pr, rfl, hB, hl, hr⟩ := ht
      have d0 : W.cell? ⟨b, 0, none⟩ = some (.string k') := hB.cell 0
      have d1 : W.cell? ⟨b, 1, none⟩ = some (.int .i64 v'.1) := hB.cell 1
      have d2 : W.cell? ⟨b, 2, none⟩ = some (.string v'.2) := hB.cell 2
      have d3 : W.cell? ⟨b, 4, none⟩ = some (.pointer pl) := hB.cell 4
      have d4 : W.cell? ⟨b, 5, none⟩ = some (.pointer pr) := hB.cell 5
      have HM := Lib.hid (show nodeSz W (.pointer (some ⟨b, 0, none⟩)) = _ from nodeSz_of hB)
      have HL := Lib.hid hl
      have HR := Lib.hid hr
      have HGE := Lib.hid (show (if klt k k' = true then Tr.get k l else if k = k' then some v' else Tr.get k r) = o from hg)
      have HLM := Lib.hid (isz hl)
      have HRM := Lib.hid (isz hr)
      clear hg hB hl hr HG
      by_cases hk : klt k k' = true
      · have hkb : Op.bytesLess k.toList k'.toList = true := hk
        have HG2 := Lib.hid ((if_pos hk).symm.trans HGE.out)
        clear hk
        go_wp2_with fail
        go_round
        case rel => exact ⟨l, _, rfl, HL.out, HG2.out⟩
        case measure => rw [HM.out, HLM.out]; omega
      · have hkb : Op.bytesLess k.toList k'.toList = false := by have : klt k k' = false := by simpa using hk
                                                                 exact this
        by_cases he : k = k'
        · have HG2 := Lib.hid ((if_pos he).symm.trans ((if_neg hk).symm.trans HGE.out))
          subst he
          clear hk
          have hoo := HG2.out
          subst hoo
          go_wp2
          exact get_out (cs := #[.int .i64 v'.1, .string v'.2]) (g := w.heap.size) rfl rfl rfl ((HX.out.set_ 0 _).set_ 1 _) ⟨rfl, (HBW.out.setCell (p := ⟨w.heap.size, 0, none⟩) (Nat.le_refl _) _).setCell (p := ⟨w.heap.size, 1, none⟩) (Nat.le_refl _) _⟩
        · have HG2 := Lib.hid ((if_neg he).symm.trans ((if_neg hk).symm.trans HGE.out))
          have heb : (k.toList == k'.toList) = false := by rw [keq]; exact decide_eq_false he
          clear hk he
          go_wp2_with fail
          go_round
          case rel => exact ⟨r, _, rfl, HR.out, HG2.out⟩
          case measure => rw [HM.out, HRM.out]; omega
end Go.Proofs.Ytpmgabeefppajaa.OK
