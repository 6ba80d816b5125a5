/- Maps with keys that are texts, that hold whatever values: what stands where, how many. -/
import Derived.Test.YthcjbljkokflgaaYc
import Derived.Test.YthcjbljkokflgaaZae
import Derived.Test.YthcjbljkokflgaaZaa
import Derived.Maps.Own
import Derived.StringKeys
import Derived.Test.YthcjbljkokflgaaProg
import Derived.Maps.OwnOps
import Derived.Maps.Views
import Derived.BigQuiet
import Derived.RegionTactic
import Derived.Deep.QuietTactic
set_option linter.unnecessarySimpa false
/- Conditions: May, Holds, of both. -/
namespace Go.Proofs.Ythcjbljkokflgaa
open Go.RowKit
open Go.Lib
set_option linter.unusedVariables false
set_option linter.unusedSimpArgs false
set_option maxRecDepth 100000
def mayB (k v : Int) : Bool := if k = 0 ∨ k = 1 ∨ k = 2 then v == 0 else if k = 3 then decide (1 ≤ v) else false
theorem kinds (k : Int) : k = 0 ∨ k = 1 ∨ k = 2 ∨ k = 3 ∨ ((k == 0) = false ∧ (k == 1) = false ∧ (k == 2) = false ∧ (k == 3) = false ∧ ∀ v, mayB k v = false) := by
  by_cases h0 : k = 0
  · exact .inl h0
  by_cases h1 : k = 1
  · exact .inr (.inl h1)
  by_cases h2 : k = 2
  · exact .inr (.inr (.inl h2))
  by_cases h3 : k = 3
  · exact .inr (.inr (.inr (.inl h3)))
  · exact .inr (.inr (.inr (.inr ⟨by simpa using h0, by simpa using h1, by simpa using h2, by simpa using h3, fun v => by simp [mayB, h0, h1, h2, h3]⟩)))
set_option maxHeartbeats 400000 in
theorem may_any (k v : Int) (w : World) : Calls Try.prog 77 #[.agg #[.int .i64 k, .int .i64 v]] w fun e w' => e = .returned (.bool (mayB k v)) ∧ Below w.heap.size w w' := by
  rcases kinds k with rfl | rfl | rfl | rfl | ⟨h0, h1, h2, h3, hm⟩
  · go_enter Try.func77, Try.ntmps77
    go_wp2
    all_goals go_ret
    all_goals exact ⟨by first | rfl | (simp [mayB]; done), (Below.refl _ _).alloc (Nat.le_refl _) _⟩
  · go_enter Try.func77, Try.ntmps77
    go_wp2
    all_goals go_ret
    all_goals exact ⟨by first | rfl | (simp [mayB]; done), (Below.refl _ _).alloc (Nat.le_refl _) _⟩
  · go_enter Try.func77, Try.ntmps77
    go_wp2
    all_goals go_ret
    all_goals exact ⟨by first | rfl | (simp [mayB]; done), (Below.refl _ _).alloc (Nat.le_refl _) _⟩
  · go_enter Try.func77, Try.ntmps77
    go_wp2
    all_goals go_ret
    all_goals exact ⟨by first | rfl | (simp [mayB]; done), (Below.refl _ _).alloc (Nat.le_refl _) _⟩
  · have HM := Lib.hid hm
    clear hm
    go_enter Try.func77, Try.ntmps77
    go_wp2
    all_goals go_ret
    all_goals exact ⟨ret_bool (HM.out v).symm, (Below.refl _ _).alloc (Nat.le_refl _) _⟩
set_option maxHeartbeats 400000 in
theorem rmay_any (k v : Int) (w : World) : Calls Try.prog 63 #[.agg #[.int .i64 k, .int .i64 v]] w fun e w' => e = .returned (.bool (mayB k v)) ∧ Below w.heap.size w w' := by
  rcases kinds k with rfl | rfl | rfl | rfl | ⟨h0, h1, h2, h3, hm⟩
  · go_enter Try.func63, Try.ntmps63
    go_wp2
    all_goals go_ret
    all_goals exact ⟨by first | rfl | (simp [mayB]; done), (Below.refl _ _).alloc (Nat.le_refl _) _⟩
  · go_enter Try.func63, Try.ntmps63
    go_wp2
    all_goals go_ret
    all_goals exact ⟨by first | rfl | (simp [mayB]; done), (Below.refl _ _).alloc (Nat.le_refl _) _⟩
  · go_enter Try.func63, Try.ntmps63
    go_wp2
    all_goals go_ret
    all_goals exact ⟨by first | rfl | (simp [mayB]; done), (Below.refl _ _).alloc (Nat.le_refl _) _⟩
  · go_enter Try.func63, Try.ntmps63
    go_wp2
    all_goals go_ret
    all_goals exact ⟨by first | rfl | (simp [mayB]; done), (Below.refl _ _).alloc (Nat.le_refl _) _⟩
  · have HM := Lib.hid hm
    clear hm
    go_enter Try.func63, Try.ntmps63
    go_wp2
    all_goals go_ret
    all_goals exact ⟨ret_bool (HM.out v).symm, (Below.refl _ _).alloc (Nat.le_refl _) _⟩

def holdsB (k v : Int) (th : Bool) (ver : Int) : Bool := if mayB k v = false then false else if k = 1 then !th else if k = 2 then th else if k = 3 then th && (ver == v) else true
set_option maxHeartbeats 4000000 in
theorem holds_any (k v : Int) (th : Bool) (ver : Int) (w : World) : Calls Try.prog 62 #[.agg #[.int .i64 k, .int .i64 v], .bool th, .int .i64 ver] w fun e w' => e = .returned (.bool (holdsB k v th ver)) ∧ Below w.heap.size w w' := by
  obtain ⟨WA, hWA⟩ : ∃ WA, w.alloc (.cells #[.int .i64 k, .int .i64 v] 31) = WA := ⟨_, rfl⟩
  have HBA := Lib.hid (show Below w.heap.size w WA from hWA ▸ (Below.refl _ w).alloc (Nat.le_refl _) _)
  have HXA := Lib.hid (show Blk WA w.heap.size 31 #[.int .i64 k, .int .i64 v] from hWA ▸ Blk.new w _ _)
  have HM := Lib.hid (may_any k v WA)
  obtain ⟨my, hmy⟩ : ∃ x, mayB k v = x := ⟨_, rfl⟩
  have HMY := Lib.hid hmy
  rw [hmy] at HM
  have b0 : WA.cell? ⟨w.heap.size, 0, none⟩ = some (.int .i64 k) := HXA.out.cell 0
  have b1 : WA.cell? ⟨w.heap.size, 1, none⟩ = some (.int .i64 v) := HXA.out.cell 1
  clear hmy
  cases my with
  | false =>
    have HR := Lib.hid (show holdsB k v th ver = false by unfold holdsB; rw [if_pos HMY.out])
    rw [HR.out]
    go_enter Try.func62, Try.ntmps62
    go_wp2_with fail
    try rw [hWA]
    refine HM.out.mono ?_
    rintro _ w2 ⟨rfl, hb⟩
    have HB2 := Lib.hid (HBA.out.trans (hb.mono HBA.out.size))
    clear hb HM
    go_wp2
    go_ret
    exact ⟨rfl, HB2.out⟩
  | true =>
    rcases kinds k with hk | hk | hk | hk | ⟨_, _, _, _, hm⟩
    · subst hk
      have HR := Lib.hid (show holdsB 0 v th ver = true by unfold holdsB; rw [HMY.out]; first | rfl | (simp; done))
      rw [HR.out]
      go_enter Try.func62, Try.ntmps62
      go_wp2_with fail
      try rw [hWA]
      refine HM.out.mono ?_
      rintro _ w2 ⟨rfl, hb⟩
      have HX2 := Lib.hid (HXA.out.below hb HXA.out.lt)
      have HB2 := Lib.hid (HBA.out.trans (hb.mono HBA.out.size))
      have e0 : w2.cell? ⟨w.heap.size, 0, none⟩ = some (.int .i64 0) := HX2.out.cell 0
      have e1 : w2.cell? ⟨w.heap.size, 1, none⟩ = some (.int .i64 v) := HX2.out.cell 1
      clear hb HM b0 b1
      go_wp2
      all_goals go_ret
      all_goals exact ⟨by first | rfl | (simp; done), HB2.out⟩
    · subst hk
      cases th with
      | true =>
        have HR := Lib.hid (show holdsB 1 v true ver = false by unfold holdsB; rw [HMY.out]; first | rfl | (simp; done))
        rw [HR.out]
        go_enter Try.func62, Try.ntmps62
        go_wp2_with fail
        try rw [hWA]
        refine HM.out.mono ?_
        rintro _ w2 ⟨rfl, hb⟩
        have HX2 := Lib.hid (HXA.out.below hb HXA.out.lt)
        have HB2 := Lib.hid (HBA.out.trans (hb.mono HBA.out.size))
        have e0 : w2.cell? ⟨w.heap.size, 0, none⟩ = some (.int .i64 1) := HX2.out.cell 0
        have e1 : w2.cell? ⟨w.heap.size, 1, none⟩ = some (.int .i64 v) := HX2.out.cell 1
        clear hb HM b0 b1
        go_wp2
        all_goals go_ret
        all_goals exact ⟨by first | rfl | (simp; done), HB2.out⟩
      | false =>
        have HR := Lib.hid (show holdsB 1 v false ver = true by unfold holdsB; rw [HMY.out]; first | rfl | (simp; done))
        rw [HR.out]
        go_enter Try.func62, Try.ntmps62
        go_wp2_with fail
        try rw [hWA]
        refine HM.out.mono ?_
        rintro _ w2 ⟨rfl, hb⟩
        have HX2 := Lib.hid (HXA.out.below hb HXA.out.lt)
        have HB2 := Lib.hid (HBA.out.trans (hb.mono HBA.out.size))
        have e0 : w2.cell? ⟨w.heap.size, 0, none⟩ = some (.int .i64 1) := HX2.out.cell 0
        have e1 : w2.cell? ⟨w.heap.size, 1, none⟩ = some (.int .i64 v) := HX2.out.cell 1
        clear hb HM b0 b1
        go_wp2
        all_goals go_ret
        all_goals exact ⟨by first | rfl | (simp; done), HB2.out⟩
    · subst hk
      cases th with
      | true =>
        have HR := Lib.hid (show holdsB 2 v true ver = true by unfold holdsB; rw [HMY.out]; first | rfl | (simp; done))
        rw [HR.out]
        go_enter Try.func62, Try.ntmps62
        go_wp2_with fail
        try rw [hWA]
        refine HM.out.mono ?_
        rintro _ w2 ⟨rfl, hb⟩
        have HX2 := Lib.hid (HXA.out.below hb HXA.out.lt)
        have HB2 := Lib.hid (HBA.out.trans (hb.mono HBA.out.size))
        have e0 : w2.cell? ⟨w.heap.size, 0, none⟩ = some (.int .i64 2) := HX2.out.cell 0
        have e1 : w2.cell? ⟨w.heap.size, 1, none⟩ = some (.int .i64 v) := HX2.out.cell 1
        clear hb HM b0 b1
        go_wp2
        all_goals go_ret
        all_goals exact ⟨by first | rfl | (simp; done), HB2.out⟩
      | false =>
        have HR := Lib.hid (show holdsB 2 v false ver = false by unfold holdsB; rw [HMY.out]; first | rfl | (simp; done))
        rw [HR.out]
        go_enter Try.func62, Try.ntmps62
        go_wp2_with fail
        try rw [hWA]
        refine HM.out.mono ?_
        rintro _ w2 ⟨rfl, hb⟩
        have HX2 := Lib.hid (HXA.out.below hb HXA.out.lt)
        have HB2 := Lib.hid (HBA.out.trans (hb.mono HBA.out.size))
        have e0 : w2.cell? ⟨w.heap.size, 0, none⟩ = some (.int .i64 2) := HX2.out.cell 0
        have e1 : w2.cell? ⟨w.heap.size, 1, none⟩ = some (.int .i64 v) := HX2.out.cell 1
        clear hb HM b0 b1
        go_wp2
        all_goals go_ret
        all_goals exact ⟨by first | rfl | (simp; done), HB2.out⟩
    · subst hk
      cases th with
      | true =>
        have HR := Lib.hid (show holdsB 3 v true ver = (ver == v) by unfold holdsB; rw [HMY.out]; first | rfl | (simp; done))
        rw [HR.out]
        go_enter Try.func62, Try.ntmps62
        go_wp2_with fail
        try rw [hWA]
        refine HM.out.mono ?_
        rintro _ w2 ⟨rfl, hb⟩
        have HX2 := Lib.hid (HXA.out.below hb HXA.out.lt)
        have HB2 := Lib.hid (HBA.out.trans (hb.mono HBA.out.size))
        have e0 : w2.cell? ⟨w.heap.size, 0, none⟩ = some (.int .i64 3) := HX2.out.cell 0
        have e1 : w2.cell? ⟨w.heap.size, 1, none⟩ = some (.int .i64 v) := HX2.out.cell 1
        clear hb HM b0 b1
        go_wp2
        all_goals go_ret
        all_goals exact ⟨by first | rfl | (simp; done), HB2.out⟩
      | false =>
        have HR := Lib.hid (show holdsB 3 v false ver = false by unfold holdsB; rw [HMY.out]; first | rfl | (simp; done))
        rw [HR.out]
        go_enter Try.func62, Try.ntmps62
        go_wp2_with fail
        try rw [hWA]
        refine HM.out.mono ?_
        rintro _ w2 ⟨rfl, hb⟩
        have HX2 := Lib.hid (HXA.out.below hb HXA.out.lt)
        have HB2 := Lib.hid (HBA.out.trans (hb.mono HBA.out.size))
        have e0 : w2.cell? ⟨w.heap.size, 0, none⟩ = some (.int .i64 3) := HX2.out.cell 0
        have e1 : w2.cell? ⟨w.heap.size, 1, none⟩ = some (.int .i64 v) := HX2.out.cell 1
        clear hb HM b0 b1
        go_wp2
        all_goals go_ret
        all_goals exact ⟨by first | rfl | (simp; done), HB2.out⟩
    · rw [hm] at HMY; exact absurd HMY.out (by decide)
set_option maxHeartbeats 4000000 in
theorem rholds_any (k v : Int) (th : Bool) (ver : Int) (w : World) : Calls Try.prog 50 #[.agg #[.int .i64 k, .int .i64 v], .bool th, .int .i64 ver] w fun e w' => e = .returned (.bool (holdsB k v th ver)) ∧ Below w.heap.size w w' := by
  obtain ⟨WA, hWA⟩ : ∃ WA, w.alloc (.cells #[.int .i64 k, .int .i64 v] 31) = WA := ⟨_, rfl⟩
  have HBA := Lib.hid (show Below w.heap.size w WA from hWA ▸ (Below.refl _ w).alloc (Nat.le_refl _) _)
  have HXA := Lib.hid (show Blk WA w.heap.size 31 #[.int .i64 k, .int .i64 v] from hWA ▸ Blk.new w _ _)
  have HM := Lib.hid (rmay_any k v WA)
  obtain ⟨my, hmy⟩ : ∃ x, mayB k v = x := ⟨_, rfl⟩
  have HMY := Lib.hid hmy
  rw [hmy] at HM
  have b0 : WA.cell? ⟨w.heap.size, 0, none⟩ = some (.int .i64 k) := HXA.out.cell 0
  have b1 : WA.cell? ⟨w.heap.size, 1, none⟩ = some (.int .i64 v) := HXA.out.cell 1
  clear hmy
  cases my with
  | false =>
    have HR := Lib.hid (show holdsB k v th ver = false by unfold holdsB; rw [if_pos HMY.out])
    rw [HR.out]
    go_enter Try.func50, Try.ntmps50
    go_wp2_with fail
    try rw [hWA]
    refine HM.out.mono ?_
    rintro _ w2 ⟨rfl, hb⟩
    have HB2 := Lib.hid (HBA.out.trans (hb.mono HBA.out.size))
    clear hb HM
    go_wp2
    go_ret
    exact ⟨rfl, HB2.out⟩
  | true =>
    rcases kinds k with hk | hk | hk | hk | ⟨_, _, _, _, hm⟩
    · subst hk
      have HR := Lib.hid (show holdsB 0 v th ver = true by unfold holdsB; rw [HMY.out]; first | rfl | (simp; done))
      rw [HR.out]
      go_enter Try.func50, Try.ntmps50
      go_wp2_with fail
      try rw [hWA]
      refine HM.out.mono ?_
      rintro _ w2 ⟨rfl, hb⟩
      have HX2 := Lib.hid (HXA.out.below hb HXA.out.lt)
      have HB2 := Lib.hid (HBA.out.trans (hb.mono HBA.out.size))
      have e0 : w2.cell? ⟨w.heap.size, 0, none⟩ = some (.int .i64 0) := HX2.out.cell 0
      have e1 : w2.cell? ⟨w.heap.size, 1, none⟩ = some (.int .i64 v) := HX2.out.cell 1
      clear hb HM b0 b1
      go_wp2
      all_goals go_ret
      all_goals exact ⟨by first | rfl | (simp; done), HB2.out⟩
    · subst hk
      cases th with
      | true =>
        have HR := Lib.hid (show holdsB 1 v true ver = false by unfold holdsB; rw [HMY.out]; first | rfl | (simp; done))
        rw [HR.out]
        go_enter Try.func50, Try.ntmps50
        go_wp2_with fail
        try rw [hWA]
        refine HM.out.mono ?_
        rintro _ w2 ⟨rfl, hb⟩
        have HX2 := Lib.hid (HXA.out.below hb HXA.out.lt)
        have HB2 := Lib.hid (HBA.out.trans (hb.mono HBA.out.size))
        have e0 : w2.cell? ⟨w.heap.size, 0, none⟩ = some (.int .i64 1) := HX2.out.cell 0
        have e1 : w2.cell? ⟨w.heap.size, 1, none⟩ = some (.int .i64 v) := HX2.out.cell 1
        clear hb HM b0 b1
        go_wp2
        all_goals go_ret
        all_goals exact ⟨by first | rfl | (simp; done), HB2.out⟩
      | false =>
        have HR := Lib.hid (show holdsB 1 v false ver = true by unfold holdsB; rw [HMY.out]; first | rfl | (simp; done))
        rw [HR.out]
        go_enter Try.func50, Try.ntmps50
        go_wp2_with fail
        try rw [hWA]
        refine HM.out.mono ?_
        rintro _ w2 ⟨rfl, hb⟩
        have HX2 := Lib.hid (HXA.out.below hb HXA.out.lt)
        have HB2 := Lib.hid (HBA.out.trans (hb.mono HBA.out.size))
        have e0 : w2.cell? ⟨w.heap.size, 0, none⟩ = some (.int .i64 1) := HX2.out.cell 0
        have e1 : w2.cell? ⟨w.heap.size, 1, none⟩ = some (.int .i64 v) := HX2.out.cell 1
        clear hb HM b0 b1
        go_wp2
        all_goals go_ret
        all_goals exact ⟨by first | rfl | (simp; done), HB2.out⟩
    · subst hk
      cases th with
      | true =>
        have HR := Lib.hid (show holdsB 2 v true ver = true by unfold holdsB; rw [HMY.out]; first | rfl | (simp; done))
        rw [HR.out]
        go_enter Try.func50, Try.ntmps50
        go_wp2_with fail
        try rw [hWA]
        refine HM.out.mono ?_
        rintro _ w2 ⟨rfl, hb⟩
        have HX2 := Lib.hid (HXA.out.below hb HXA.out.lt)
        have HB2 := Lib.hid (HBA.out.trans (hb.mono HBA.out.size))
        have e0 : w2.cell? ⟨w.heap.size, 0, none⟩ = some (.int .i64 2) := HX2.out.cell 0
        have e1 : w2.cell? ⟨w.heap.size, 1, none⟩ = some (.int .i64 v) := HX2.out.cell 1
        clear hb HM b0 b1
        go_wp2
        all_goals go_ret
        all_goals exact ⟨by first | rfl | (simp; done), HB2.out⟩
      | false =>
        have HR := Lib.hid (show holdsB 2 v false ver = false by unfold holdsB; rw [HMY.out]; first | rfl | (simp; done))
        rw [HR.out]
        go_enter Try.func50, Try.ntmps50
        go_wp2_with fail
        try rw [hWA]
        refine HM.out.mono ?_
        rintro _ w2 ⟨rfl, hb⟩
        have HX2 := Lib.hid (HXA.out.below hb HXA.out.lt)
        have HB2 := Lib.hid (HBA.out.trans (hb.mono HBA.out.size))
        have e0 : w2.cell? ⟨w.heap.size, 0, none⟩ = some (.int .i64 2) := HX2.out.cell 0
        have e1 : w2.cell? ⟨w.heap.size, 1, none⟩ = some (.int .i64 v) := HX2.out.cell 1
        clear hb HM b0 b1
        go_wp2
        all_goals go_ret
        all_goals exact ⟨by first | rfl | (simp; done), HB2.out⟩
    · subst hk
      cases th with
      | true =>
        have HR := Lib.hid (show holdsB 3 v true ver = (ver == v) by unfold holdsB; rw [HMY.out]; first | rfl | (simp; done))
        rw [HR.out]
        go_enter Try.func50, Try.ntmps50
        go_wp2_with fail
        try rw [hWA]
        refine HM.out.mono ?_
        rintro _ w2 ⟨rfl, hb⟩
        have HX2 := Lib.hid (HXA.out.below hb HXA.out.lt)
        have HB2 := Lib.hid (HBA.out.trans (hb.mono HBA.out.size))
        have e0 : w2.cell? ⟨w.heap.size, 0, none⟩ = some (.int .i64 3) := HX2.out.cell 0
        have e1 : w2.cell? ⟨w.heap.size, 1, none⟩ = some (.int .i64 v) := HX2.out.cell 1
        clear hb HM b0 b1
        go_wp2
        all_goals go_ret
        all_goals exact ⟨by first | rfl | (simp; done), HB2.out⟩
      | false =>
        have HR := Lib.hid (show holdsB 3 v false ver = false by unfold holdsB; rw [HMY.out]; first | rfl | (simp; done))
        rw [HR.out]
        go_enter Try.func50, Try.ntmps50
        go_wp2_with fail
        try rw [hWA]
        refine HM.out.mono ?_
        rintro _ w2 ⟨rfl, hb⟩
        have HX2 := Lib.hid (HXA.out.below hb HXA.out.lt)
        have HB2 := Lib.hid (HBA.out.trans (hb.mono HBA.out.size))
        have e0 : w2.cell? ⟨w.heap.size, 0, none⟩ = some (.int .i64 3) := HX2.out.cell 0
        have e1 : w2.cell? ⟨w.heap.size, 1, none⟩ = some (.int .i64 v) := HX2.out.cell 1
        clear hb HM b0 b1
        go_wp2
        all_goals go_ret
        all_goals exact ⟨by first | rfl | (simp; done), HB2.out⟩
    · rw [hm] at HMY; exact absurd HMY.out (by decide)
end Go.Proofs.Ythcjbljkokflgaa
/- What a write weighs. -/
namespace Go.Proofs.Ythcjbljkokflgaa
open Go.RowKit
open Go.Lib
set_option linter.unusedVariables false
set_option linter.unusedSimpArgs false
set_option maxRecDepth 100000
/-- By how many cards and bytes there are more, or why not. -/
def wghB (o : Ow) (x : Option (Int × ByteArray)) : Int × (Int × Int) :=
  if holdsB o.k o.v x.isSome (x.getD (0, .empty)).1 = false then (0, (0, 6))
  else if (o.del && !x.isSome) = true then (0, (0, 4))
  else if o.del = true then (-1, (-((x.getD (0, .empty)).2.size : Int), 0))
  else if x.isSome = true then (0, ((o.card.size : Int) - ((x.getD (0, .empty)).2.size : Int), 0))
  else (1, ((o.card.size : Int), 0))
set_option maxHeartbeats 16000000 in
theorem weigh_any {w : World} {B g : Nat} {c : Cs} (h : Cl w B g c) (hB : B ≤ w.heap.size) (d : Bool) (u cd : ByteArray) (k v : Int) (hc : cd.size ≤ 10000) (x : Option (Int × ByteArray)) (hx : getL u c.L = x) (hs : (x.getD (0, .empty)).2.size ≤ 10000) : Calls Try.prog 49 #[.pointer (some ⟨g, 0, none⟩), .agg #[.bool d, .string u, .string cd, .int .i64 k, .int .i64 v]] w fun e w' => e = .returned (.tuple #[.int .i64 (wghB ⟨d, u, cd, k, v⟩ x).1, .int .i64 (wghB ⟨d, u, cd, k, v⟩ x).2.1, .int .i64 (wghB ⟨d, u, cd, k, v⟩ x).2.2]) ∧ Below w.heap.size w w' := by
  obtain ⟨WA, hWA⟩ : ∃ WA, w.alloc (.cells #[.bool d, .string u, .string cd, .int .i64 k, .int .i64 v] 33) = WA := ⟨_, rfl⟩
  have HBA := Lib.hid (show Below w.heap.size w WA from hWA ▸ (Below.refl _ w).alloc (Nat.le_refl _) _)
  have HXA := Lib.hid (show Blk WA w.heap.size 33 #[.bool d, .string u, .string cd, .int .i64 k, .int .i64 v] from hWA ▸ Blk.new w _ _)
  have HSA := Lib.hid (show WA.heap.size = w.heap.size + 1 by rw [← hWA]; simp)
  obtain ⟨m, R, e1, e2, -, -, -⟩ := h
  have hgl := e1.lt
  have HG := Lib.hid (fun (W : World) (hb : Below w.heap.size w W) => OC.om_get (e2.below hb) u x hx)
  have HE1 := Lib.hid e1
  have HRD := Lib.hid (fun (W : World) (hb : Below WA.heap.size WA W) => (⟨((HE1.out.below HBA.out hgl).below hb (HE1.out.below HBA.out hgl).lt).cell 0, (HXA.out.below hb HXA.out.lt).cell 1⟩ : W.cell? ⟨g, 0, none⟩ = some (.pointer (some ⟨m, 0, none⟩)) ∧ W.cell? ⟨w.heap.size, 1, none⟩ = some (.string u)))
  have HF0 := Lib.hid ((Below.refl WA.heap.size WA).drew)
  obtain ⟨yv, hyv⟩ : ∃ y, (x.getD (0, .empty)).1 = y := ⟨_, rfl⟩
  obtain ⟨yt, hyt⟩ : ∃ y, (x.getD (0, .empty)).2 = y := ⟨_, rfl⟩
  obtain ⟨th, hth⟩ : ∃ y, x.isSome = y := ⟨_, rfl⟩
  have HOV := Lib.hid (show OC.ov x = .agg #[.int .i64 yv, .string yt] by unfold OC.ov; rw [hyv, hyt])
  rw [HOV.out, hth] at HG
  rw [hyt] at hs
  have HWG := Lib.hid (show wghB ⟨d, u, cd, k, v⟩ x = if holdsB k v th yv = false then (0, (0, 6)) else if (d && !th) = true then (0, (0, 4)) else if d = true then (-1, (-(yt.size : Int), 0)) else if th = true then (0, ((cd.size : Int) - (yt.size : Int), 0)) else (1, ((cd.size : Int), 0)) by unfold wghB; simp only; rw [hyv, hyt, hth])
  rw [HWG.out]
  have hsI : (yt.size : Int) ≤ 10000 := by omega
  have hcI : (cd.size : Int) ≤ 10000 := by omega
  obtain ⟨hh, hhh⟩ : ∃ y, holdsB k v th yv = y := ⟨_, rfl⟩
  have HHO := Lib.hid (fun W => holds_any k v th yv W)
  rw [hhh] at HHO
  rw [hhh]
  clear e1 e2 hx hyv hyt hth hhh HOV HWG
  go_enter Try.func49, Try.ntmps49
  go_wp2_with fail
  try rw [hWA]
  refine wp_region_E [([6], fun w' => w'.cell? ⟨g, 0, none⟩ = some (.pointer (some ⟨m, 0, none⟩))), ([6], fun w' => w'.cell? ⟨w.heap.size, 1, none⟩ = some (.string u))] (by kernel_rfl) ⟨fun _ => (HRD.out _ HF0.out).1, fun _ => (HRD.out _ HF0.out).2, trivial⟩ (fun hHeld => ?_)
  refine wpAnyE_take (i := 0) (v := ?_) rfl (by kernel_rfl) (by kernel_rfl) (by kernel_rfl) (by kernel_rfl) (fun _ _ _ h => h) (Or.inl ⟨by rfl, ?_⟩) hHeld (fun hHeld => ?_)
  rotate_left
  · (intro w hSw; (try dsimp only at hSw); (try simp only [List.getElem_toArray, List.getElem_cons_succ, List.getElem_cons_zero]); go_simp; try with_reducible rfl)
  try simp only [List.getElem_toArray, List.getElem_cons_succ, List.getElem_cons_zero, Act.put, List.setIfInBounds_toArray, List.set_cons_zero, List.set_cons_succ]
  refine wpAnyE_take (i := 1) (v := ?_) rfl (by kernel_rfl) (by kernel_rfl) (by kernel_rfl) (by kernel_rfl) (fun _ _ _ h => h) (Or.inl ⟨by rfl, ?_⟩) hHeld (fun hHeld => ?_)
  rotate_left
  · (intro w hSw; (try dsimp only at hSw); (try simp only [List.getElem_toArray, List.getElem_cons_succ, List.getElem_cons_zero]); go_simp; try with_reducible rfl)
  try simp only [List.getElem_toArray, List.getElem_cons_succ, List.getElem_cons_zero, Act.put, List.setIfInBounds_toArray, List.set_cons_zero, List.set_cons_succ]
  refine wpAnyE_take (i := 2) (v := ?_) rfl (by kernel_rfl) (by kernel_rfl) (by kernel_rfl) (by kernel_rfl) (fun _ _ _ h => h) (Or.inl ⟨by rfl, ?_⟩) hHeld (fun hHeld => ?_)
  rotate_left
  · (intro w hSw; (try dsimp only at hSw); (try simp only [List.getElem_toArray, List.getElem_cons_succ, List.getElem_cons_zero]); go_simp; try with_reducible rfl)
  try simp only [List.getElem_toArray, List.getElem_cons_succ, List.getElem_cons_zero, Act.put, List.setIfInBounds_toArray, List.set_cons_zero, List.set_cons_succ]
  refine wpAnyE_load (i := 3) _ _ (v := ?_) rfl (by kernel_rfl) List.mem_cons_self (by kernel_rfl) (by kernel_rfl) (by kernel_rfl) (by kernel_rfl) (fun _ _ _ h => h) (Or.inl ⟨by rfl, ?_⟩) hHeld (fun hHeld => ?_)
  rotate_left
  · (intro w hSw; (try dsimp only at hSw); (try simp only [List.getElem_toArray, List.getElem_cons_succ, List.getElem_cons_zero]); go_simp; try with_reducible rfl)
  try simp only [List.getElem_toArray, List.getElem_cons_succ, List.getElem_cons_zero, Act.put, List.setIfInBounds_toArray, List.set_cons_zero, List.set_cons_succ]
  refine wpAnyE_take (i := 4) (v := ?_) rfl (by kernel_rfl) (by kernel_rfl) (by kernel_rfl) (by kernel_rfl) (fun _ _ _ h => h) (Or.inl ⟨by rfl, ?_⟩) hHeld (fun hHeld => ?_)
  rotate_left
  · (intro w hSw; (try dsimp only at hSw); (try simp only [List.getElem_toArray, List.getElem_cons_succ, List.getElem_cons_zero]); go_simp; try with_reducible rfl)
  try simp only [List.getElem_toArray, List.getElem_cons_succ, List.getElem_cons_zero, Act.put, List.setIfInBounds_toArray, List.set_cons_zero, List.set_cons_succ]
  refine wpAnyE_load (i := 5) _ _ (v := ?_) rfl (by kernel_rfl) (List.mem_cons_of_mem _ List.mem_cons_self) (by kernel_rfl) (by kernel_rfl) (by kernel_rfl) (by kernel_rfl) (fun _ _ _ h => h) (Or.inl ⟨by rfl, ?_⟩) hHeld (fun hHeld => ?_)
  rotate_left
  · (intro w hSw; (try dsimp only at hSw); (try simp only [List.getElem_toArray, List.getElem_cons_succ, List.getElem_cons_zero]); go_simp; try with_reducible rfl)
  try simp only [List.getElem_toArray, List.getElem_cons_succ, List.getElem_cons_zero, Act.put, List.setIfInBounds_toArray, List.set_cons_zero, List.set_cons_succ]
  refine wpAnyE_ready (rs := [6, 10]) (by kernel_rfl) (by simp) (AllE.cons rfl (fun K hK => ?ordA) (AllE.cons rfl (fun K hK => ?ordB) AllE.nil))
  case' ordA =>
    clear hHeld
    go_simp
    refine (HG.out _ (HBA.out.trans (HF0.out.mono (by have := HSA.out; omega)))).mono ?_
    rintro _ w1 ⟨rfl, hb⟩
    have HB1 := Lib.hid (HF0.out.trans (hb.mono (Nat.le_refl _)))
    clear hb
    refine hK.out _ _ ⟨(fun e => absurd e (Bool.eq_false_iff.1 (by kernel_rfl))), (fun e => absurd e (Bool.eq_false_iff.1 (by kernel_rfl))), trivial⟩ (fun hHeld => ?_)
    clear hK K
    try simp only [List.getElem_toArray, List.getElem_cons_succ, List.getElem_cons_zero, Act.put, List.setIfInBounds_toArray, List.set_cons_zero, List.set_cons_succ]
    refine wpAnyE_take (i := 7) (v := ?_) rfl (by kernel_rfl) (by kernel_rfl) (by kernel_rfl) (by kernel_rfl) (fun _ _ _ h => h) (Or.inl ⟨by rfl, ?_⟩) hHeld (fun hHeld => ?_)
    rotate_left
    · (intro w hSw; (try dsimp only at hSw); (try simp only [List.getElem_toArray, List.getElem_cons_succ, List.getElem_cons_zero]); go_simp; try with_reducible rfl)
    try simp only [List.getElem_toArray, List.getElem_cons_succ, List.getElem_cons_zero, Act.put, List.setIfInBounds_toArray, List.set_cons_zero, List.set_cons_succ]
    refine wpAnyE_take (i := 8) (v := ?_) rfl (by kernel_rfl) (by kernel_rfl) (by kernel_rfl) (by kernel_rfl) (fun _ _ _ h => h) (Or.inl ⟨by rfl, ?_⟩) hHeld (fun hHeld => ?_)
    rotate_left
    · (intro w hSw; (try dsimp only at hSw); (try simp only [List.getElem_toArray, List.getElem_cons_succ, List.getElem_cons_zero]); go_simp; try with_reducible rfl)
    try simp only [List.getElem_toArray, List.getElem_cons_succ, List.getElem_cons_zero, Act.put, List.setIfInBounds_toArray, List.set_cons_zero, List.set_cons_succ]
    refine wpAnyE_take (i := 9) (v := ?_) rfl (by kernel_rfl) (by kernel_rfl) (by kernel_rfl) (by kernel_rfl) (fun _ _ _ h => h) (Or.inl ⟨by rfl, ?_⟩) hHeld (fun hHeld => ?_)
    rotate_left
    · (intro w hSw; (try dsimp only at hSw); (try simp only [List.getElem_toArray, List.getElem_cons_succ, List.getElem_cons_zero]); go_simp; try with_reducible rfl)
    try simp only [List.getElem_toArray, List.getElem_cons_succ, List.getElem_cons_zero, Act.put, List.setIfInBounds_toArray, List.set_cons_zero, List.set_cons_succ]
    refine wpAnyE_ready (rs := [10]) (by kernel_rfl) (by simp) (AllE.cons rfl (fun K hK => ?_) AllE.nil)
    clear hHeld
    go_simp
    refine hK.out _ _ ⟨(fun e => absurd e (Bool.eq_false_iff.1 (by kernel_rfl))), (fun e => absurd e (Bool.eq_false_iff.1 (by kernel_rfl))), trivial⟩ (fun hHeld => ?_)
    clear hK K
    try simp only [List.getElem_toArray, List.getElem_cons_succ, List.getElem_cons_zero, Act.put, List.setIfInBounds_toArray, List.set_cons_zero, List.set_cons_succ]
    refine wpAnyE_ready (rs := [11]) (by kernel_rfl) (by simp) (AllE.cons rfl (fun K hK => ?_) AllE.nil)
    clear hHeld
    go_simp
    refine hK.out _ _ ⟨(fun e => absurd e (Bool.eq_false_iff.1 (by kernel_rfl))), (fun e => absurd e (Bool.eq_false_iff.1 (by kernel_rfl))), trivial⟩ (fun hHeld => ?_)
    clear hK K
    try simp only [List.getElem_toArray, List.getElem_cons_succ, List.getElem_cons_zero, Act.put, List.setIfInBounds_toArray, List.set_cons_zero, List.set_cons_succ]
    refine wpAnyE_take (i := 12) (v := ?_) rfl (by kernel_rfl) (by kernel_rfl) (by kernel_rfl) (by kernel_rfl) (fun _ _ _ h => h) (Or.inl ⟨by rfl, ?_⟩) hHeld (fun hHeld => ?_)
    rotate_left
    · (intro w hSw; (try dsimp only at hSw); (try simp only [List.getElem_toArray, List.getElem_cons_succ, List.getElem_cons_zero]); go_simp; try with_reducible rfl)
    try simp only [List.getElem_toArray, List.getElem_cons_succ, List.getElem_cons_zero, Act.put, List.setIfInBounds_toArray, List.set_cons_zero, List.set_cons_succ]
    refine wpAnyE_done (by kernel_rfl) (only_normal ?_) _
    clear hHeld hWA
    obtain ⟨W3, hW3⟩ : ∃ W, w1.alloc (.cells #[.int .i64 yv, .string yt] 68) = W := ⟨_, rfl⟩
    have HBW := Lib.hid (show Below WA.heap.size WA W3 from hW3 ▸ HB1.out.alloc HB1.out.size _)
    obtain ⟨O, hO⟩ : ∃ O, w1.heap.size = O := ⟨_, rfl⟩
    have HK3 := Lib.hid (show Blk W3 O 68 #[.int .i64 yv, .string yt] from hO ▸ hW3 ▸ Blk.new w1 _ _)
    rw [hW3, hO]
    clear hW3 hO HB1
  case' ordB =>
    clear hHeld
    go_simp
    have HB0 := Lib.hid (show Below WA.heap.size WA (WA.alloc (.cells #[.int .i64 0, .string ⟨#[]⟩] 68)).drew from ((Below.refl WA.heap.size WA).alloc (Nat.le_refl _) _).drew)
    refine hK.out _ _ ⟨fun _ => (HRD.out _ HB0.out).1, fun _ => (HRD.out _ HB0.out).2, trivial⟩ (fun hHeld => ?_)
    clear hK K
    try simp only [List.getElem_toArray, List.getElem_cons_succ, List.getElem_cons_zero, Act.put, List.setIfInBounds_toArray, List.set_cons_zero, List.set_cons_succ]
    refine wpAnyE_ready (rs := [6]) (by kernel_rfl) (by simp) (AllE.cons rfl (fun K hK => ?_) AllE.nil)
    clear hHeld
    go_simp
    refine (HG.out _ (HBA.out.trans (HB0.out.mono (by have := HSA.out; omega)))).mono ?_
    rintro _ w1 ⟨rfl, hb⟩
    have HB1 := Lib.hid (HB0.out.trans (hb.mono HB0.out.size))
    have HYB := Lib.hid (show Blk w1 WA.heap.size 68 #[.int .i64 0, .string ⟨#[]⟩] from (Blk.new WA 68 #[.int .i64 0, .string ⟨#[]⟩]).drew.below hb (Blk.new WA 68 #[.int .i64 0, .string ⟨#[]⟩]).drew.lt)
    have y0 := HYB.out.cell 0
    have y1 := HYB.out.cell 1
    have z0 := HYB.out.frozen 0
    have z1 := HYB.out.frozen 1
    clear hb
    refine hK.out _ _ ⟨(fun e => absurd e (Bool.eq_false_iff.1 (by kernel_rfl))), (fun e => absurd e (Bool.eq_false_iff.1 (by kernel_rfl))), trivial⟩ (fun hHeld => ?_)
    clear hK K
    try simp only [List.getElem_toArray, List.getElem_cons_succ, List.getElem_cons_zero, Act.put, List.setIfInBounds_toArray, List.set_cons_zero, List.set_cons_succ]
    refine wpAnyE_take (i := 7) (v := ?_) rfl (by kernel_rfl) (by kernel_rfl) (by kernel_rfl) (by kernel_rfl) (fun _ _ _ h => h) (Or.inl ⟨by rfl, ?_⟩) hHeld (fun hHeld => ?_)
    rotate_left
    · (intro w hSw; (try dsimp only at hSw); (try simp only [List.getElem_toArray, List.getElem_cons_succ, List.getElem_cons_zero]); go_simp; try with_reducible rfl)
    try simp only [List.getElem_toArray, List.getElem_cons_succ, List.getElem_cons_zero, Act.put, List.setIfInBounds_toArray, List.set_cons_zero, List.set_cons_succ]
    refine wpAnyE_take (i := 8) (v := ?_) rfl (by kernel_rfl) (by kernel_rfl) (by kernel_rfl) (by kernel_rfl) (fun _ _ _ h => h) (Or.inl ⟨by rfl, ?_⟩) hHeld (fun hHeld => ?_)
    rotate_left
    · (intro w hSw; (try dsimp only at hSw); (try simp only [List.getElem_toArray, List.getElem_cons_succ, List.getElem_cons_zero]); go_simp; try with_reducible rfl)
    try simp only [List.getElem_toArray, List.getElem_cons_succ, List.getElem_cons_zero, Act.put, List.setIfInBounds_toArray, List.set_cons_zero, List.set_cons_succ]
    refine wpAnyE_take (i := 9) (v := ?_) rfl (by kernel_rfl) (by kernel_rfl) (by kernel_rfl) (by kernel_rfl) (fun _ _ _ h => h) (Or.inl ⟨by rfl, ?_⟩) hHeld (fun hHeld => ?_)
    rotate_left
    · (intro w hSw; (try dsimp only at hSw); (try simp only [List.getElem_toArray, List.getElem_cons_succ, List.getElem_cons_zero]); go_simp; try with_reducible rfl)
    try simp only [List.getElem_toArray, List.getElem_cons_succ, List.getElem_cons_zero, Act.put, List.setIfInBounds_toArray, List.set_cons_zero, List.set_cons_succ]
    refine wpAnyE_ready (rs := [11]) (by kernel_rfl) (by simp) (AllE.cons rfl (fun K hK => ?_) AllE.nil)
    clear hHeld
    go_simp
    refine hK.out _ _ ⟨(fun e => absurd e (Bool.eq_false_iff.1 (by kernel_rfl))), (fun e => absurd e (Bool.eq_false_iff.1 (by kernel_rfl))), trivial⟩ (fun hHeld => ?_)
    clear hK K
    try simp only [List.getElem_toArray, List.getElem_cons_succ, List.getElem_cons_zero, Act.put, List.setIfInBounds_toArray, List.set_cons_zero, List.set_cons_succ]
    refine wpAnyE_take (i := 12) (v := ?_) rfl (by kernel_rfl) (by kernel_rfl) (by kernel_rfl) (by kernel_rfl) (fun _ _ _ h => h) (Or.inl ⟨by rfl, ?_⟩) hHeld (fun hHeld => ?_)
    rotate_left
    · (intro w hSw; (try dsimp only at hSw); (try simp only [List.getElem_toArray, List.getElem_cons_succ, List.getElem_cons_zero]); go_simp; try with_reducible rfl)
    try simp only [List.getElem_toArray, List.getElem_cons_succ, List.getElem_cons_zero, Act.put, List.setIfInBounds_toArray, List.set_cons_zero, List.set_cons_succ]
    refine wpAnyE_done (by kernel_rfl) (only_normal ?_) _
    clear hHeld hWA y0 y1 z0 z1
    obtain ⟨W3, hW3⟩ : ∃ W, (w1.setCell ⟨WA.heap.size, 0, none⟩ (.int .i64 yv)).setCell ⟨WA.heap.size, 1, none⟩ (.string yt) = W := ⟨_, rfl⟩
    have HBW := Lib.hid (show Below WA.heap.size WA W3 from hW3 ▸ (HB1.out.setCell (p := ⟨WA.heap.size, 0, none⟩) (Nat.le_refl _) _).setCell (p := ⟨WA.heap.size, 1, none⟩) (Nat.le_refl _) _)
    obtain ⟨O, hO⟩ : ∃ O, WA.heap.size = O := ⟨_, rfl⟩
    have HK3 := Lib.hid (show Blk W3 O 68 #[.int .i64 yv, .string yt] from hO ▸ hW3 ▸ (HYB.out.set_ 0 (.int .i64 yv)).set_ 1 (.string yt))
    rw [hW3, hO]
    clear hW3 hO HB1 HB0 HYB
  all_goals (
    have HX3 := Lib.hid (HXA.out.below HBW.out HXA.out.lt)
    have HB3 := Lib.hid (HBA.out.trans (HBW.out.mono HBA.out.size))
    have e0 := HX3.out.cell 0
    have e2 := HX3.out.cell 2
    have e3 := HX3.out.cell 3
    have e4 := HX3.out.cell 4
    have f0 := HK3.out.cell 0
    simp only [List.getElem?_toArray, List.getElem?_cons_zero, List.getElem?_cons_succ] at e0 e2 e3 e4 f0
    clear HG HRD HF0
    go_wp2_with fail
    refine (HHO.out W3).mono ?_
    rintro _ w7 ⟨rfl, hb7⟩
    have HX7 := Lib.hid (HX3.out.below hb7 HX3.out.lt)
    have HK7 := Lib.hid (HK3.out.below hb7 HK3.out.lt)
    have HB7 := Lib.hid (HB3.out.trans (hb7.mono HB3.out.size))
    clear hb7 e0 e2 e3 e4 f0
    have e0 := HX7.out.cell 0
    have e2 := HX7.out.cell 2
    have f1 := HK7.out.cell 1
    simp only [List.getElem?_toArray, List.getElem?_cons_zero, List.getElem?_cons_succ] at e0 e2 f1
    cases hh with
    | false =>
      go_wp2
      go_ret3
      exact ⟨rfl, HB7.out⟩
    | true =>
      cases d with
      | true =>
        cases th with
        | false =>
          go_wp2
          go_ret3
          exact ⟨rfl, HB7.out⟩
        | true =>
          go_wp2_with fail
          go_quiet (fail)
          go_wp2
          go_ret3
          exact ⟨rfl, below_drewN HB7.out _⟩
      | false =>
        cases th with
        | false =>
          go_wp2_with fail
          go_quiet (fail)
          go_wp2
          go_ret3
          exact ⟨rfl, below_drewN HB7.out _⟩
        | true =>
          go_wp2_with fail
          go_quiet (fail)
          go_wp2
          go_ret3
          exact ⟨rfl, below_drewN HB7.out _⟩)
end Go.Proofs.Ythcjbljkokflgaa
namespace Go.Proofs.Ythcjbljkokflgaa
open Go.RowKit Go.Maps
open Go.WideElems (rg Fit)
open Go.ChangeMaps Go.MapKept
set_option linter.unusedVariables false
set_option maxRecDepth 20000
abbrev VD := DataW Value
/-- A value reads as itself. -/
def RV (v : Value) : Option (VD × List MemPlace) := some (.held v, [])
theorem KS : Keyed Try.prog 9 := string_keyed Try.underlying9
def wf (x : ByteArray) : Prop := x.size ≤ maxLen
def ks (x : ByteArray) : Lit := .string x.data.toList
theorem ks_inj {x y : ByteArray} (h : ks x = ks y) : x = y := by
  injection h with h
  exact ByteArray.ext (Array.toList_inj.1 h)
theorem ks_ne {x y : ByteArray} (h : y ≠ x) : ks y ≠ ks x := fun e => h (ks_inj e)
theorem keyS {x : ByteArray} (h : wf x) : keyOf Try.prog 9 (.string x) = some (ks x) := Go.WideMaps.keyOf_string_mk Try.underlying9 h
/-- What lies at x. -/
def vl (D : VD) (x : ByteArray) : Option Value :=
  match D.atKey (ks x) .nil with
  | .held v => some v
  | _ => none
theorem key_lit (x : ByteArray) : WideAt.IsKeyLit (ks x) := by simp [WideAt.IsKeyLit, ks]
theorem vl_put {D : VD} (h : IsMap D) (x : ByteArray) (v : Value) : vl (D.put (ks x) (.held v)) x = some v := by unfold vl; rw [atKey_put_same h (key_lit x)]
theorem vl_put_ne {D : VD} {x y : ByteArray} (hne : y ≠ x) (d : VD) : vl (D.put (ks x) d) y = vl D y := by unfold vl; rw [atKey_put_other (ks_ne hne)]
theorem vl_del (D : VD) (x : ByteArray) : vl (D.del (ks x)) x = none := by unfold vl; rw [atKey_del_same]
theorem vl_del_ne {D : VD} {x y : ByteArray} (hne : y ≠ x) : vl (D.del (ks x)) y = vl D y := by unfold vl; rw [atKey_del_other (ks_ne hne)]
/-- A map's datum: no key twice; what is there is held. -/
structure Vd (D : VD) : Prop where
  tidy : Tidy D
  has : ∀ x : ByteArray, Maps.has D (ks x) = (vl D x).isSome
theorem Vd.empty : Vd (.map []) := ⟨tidy_empty, fun x => rfl⟩
theorem Vd.put {D : VD} (h : Vd D) (x : ByteArray) (v : Value) : Vd (D.put (ks x) (.held v)) :=
  ⟨h.tidy.put (key_lit x) _, fun y => by
    by_cases e : y = x
    · subst e
      rw [has_put_same h.tidy.isMap (key_lit y), vl_put h.tidy.isMap]; rfl
    · rw [has_put_other (ks_ne e), vl_put_ne e, h.has]⟩
theorem Vd.del {D : VD} (h : Vd D) (x : ByteArray) : Vd (D.del (ks x)) :=
  ⟨h.tidy.del _, fun y => by
    by_cases e : y = x
    · subst e
      rw [has_del_same, vl_del]; rfl
    · rw [has_del_other (ks_ne e), vl_del_ne e, h.has]⟩
theorem Vd.size_put {D : VD} (h : Vd D) (x : ByteArray) (v : Value) : Maps.size (D.put (ks x) (.held v)) = if (vl D x).isSome then Maps.size D else Maps.size D + 1 := by
  rw [Maps.size_put h.tidy, h.has]
theorem Vd.size_del {D : VD} (h : Vd D) (x : ByteArray) : Maps.size (D.del (ks x)) + (if (vl D x).isSome then 1 else 0) = Maps.size D := by
  rw [← h.has]
  exact Maps.size_del h.tidy
def Vm (w : World) (b : Nat) (D : VD) : Prop := ∃ es clock, w.heap[b]? = some (.map es clock) ∧ Fit Try.prog 9 RV es clock ∧ D = .map ((es.toList.map (rg Try.prog 9 RV)).foldr DataW.insert []) ∧ Vd D
theorem Vm.lt {w : World} {b : Nat} {D : VD} (h : Vm w b D) : b < w.heap.size := by
  obtain ⟨es, clock, hb, _⟩ := h
  exact (Array.getElem?_eq_some_iff.1 hb).1
theorem Vm.vd {w : World} {b : Nat} {D : VD} (h : Vm w b D) : Vd D := by
  obtain ⟨es, clock, hb, _, _, h⟩ := h
  exact h
theorem Vm.off {w w' : World} {b : Nat} {D : VD} (h : Vm w b D) (hb : w'.heap[b]? = w.heap[b]?) : Vm w' b D := by
  obtain ⟨es, clock, h1, h2, h3, h4⟩ := h
  exact ⟨es, clock, hb.trans h1, h2, h3, h4⟩
theorem Vm.made (w : World) : Vm (w.alloc (.map #[] 0)) w.heap.size (.map []) :=
  ⟨#[], 0, (MapKept.heap_alloc w _).1, ⟨by simp, stamped_empty 0, by simp⟩, rfl, Vd.empty⟩
theorem Vm.size_eq {D : VD} {es : Array MapEntry} (h : D = .map ((es.toList.map (rg Try.prog 9 RV)).foldr DataW.insert [])) : Maps.size D = es.size := by
  subst h
  show List.length _ = _
  rw [length_sorted]
  simp
theorem Vm.look {w : World} {b : Nat} {D : VD} {t e : TypeId} (h : Vm w b D) (ht : Try.prog.underlying t = some (.map 9 e)) {z : Value} (hz : (zeroValue e).run Try.prog w = .ok z w) {x : ByteArray} (hx : wf x) :
    (Instr.lookup t (.map (some b)) (.string x) true).run Try.prog w = .ok (.tuple #[(vl D x).getD z, .bool (vl D x).isSome]) w ∧ (Instr.lookup t (.map (some b)) (.string x) false).run Try.prog w = .ok ((vl D x).getD z) w := by
  obtain ⟨es, clock, hb, F, rfl, _⟩ := h
  rcases fit_look true KS ht hz hb F (keyS hx) with ⟨h1, h0, h2⟩ | ⟨e0, y, m1, m2, h1, h2, h3, _⟩
  · have ha : vl (DataW.map ((es.toList.map (rg Try.prog 9 RV)).foldr DataW.insert [])) x = none := by unfold vl; rw [h2]
    rw [ha]
    refine ⟨h1, ?_⟩
    rcases fit_look false KS ht hz hb F (keyS hx) with ⟨g1, _, _⟩ | ⟨e1, y1, n1, n2, _⟩
    · exact g1
    · exact absurd n2 (h0 e1 n1)
  · cases h2
    have ha : vl (DataW.map ((es.toList.map (rg Try.prog 9 RV)).foldr DataW.insert [])) x = some e0.val := by unfold vl; rw [h3]
    rw [ha]
    refine ⟨h1, ?_⟩
    rcases fit_look false KS ht hz hb F (keyS hx) with ⟨g1, g2, _⟩ | ⟨e1, y1, n1, n2, g1, g2, g3, _⟩
    · exact absurd m2 (g2 e0 m1)
    · cases g2
      have e : (DataW.held e1.val : VD) = .held e0.val := (g3 .nil).symm.trans (h3 .nil)
      injection e with e
      rw [← e]
      exact g1
theorem grown_set {w : World} {b : Nat} {es : Array MapEntry} {clock : Nat} {o2 : Obj} (hb : w.heap[b]? = some (.map es clock)) : w.grownBy (setBlock w b o2) (some b) :=
  ⟨rfl, rfl, rfl, by simp [setBlock], fun j hj hne => heap_setBlock_other hb _ (fun e => hne (by rw [e]))⟩
theorem Vm.upd {w : World} {b : Nat} {D : VD} {t e : TypeId} (h : Vm w b D) (hs : Maps.size D ≤ 1000000) (ht : Try.prog.underlying t = some (.map 9 e)) {x : ByteArray} (hx : wf x) (v : Value) :
    ∃ w2, (Instr.mapUpdate t (.map (some b)) (.string x) v).run Try.prog w = .ok () w2 ∧ Vm w2 b (D.put (ks x) (.held v)) ∧ w.grownBy w2 (some b) ∧ w2.heap.size = w.heap.size := by
  obtain ⟨es, clock, hb, F, hD, hT⟩ := h
  have hsz := Vm.size_eq hD
  obtain ⟨es', clock', hrun, F', hput, _⟩ := fit_store (R' := RV) KS ht hb F (by unfold maxLen; omega) (fun _ _ _ _ h => h) (keyS hx) (rfl : RV v = some (.held v, []))
  refine ⟨_, hrun, ⟨es', clock', heap_setBlock_same hb _, F', ?_, hT.put x v⟩, grown_set hb, by simp [setBlock]⟩
  rw [hD]
  show DataW.map _ = DataW.map _
  exact congrArg DataW.map hput.symm
theorem Vm.drop {w : World} {b : Nat} {D : VD} {t e : TypeId} (ty : TypeId) (h : Vm w b D) (ht : Try.prog.underlying t = some (.map 9 e)) {x : ByteArray} (hx : wf x) :
    ∃ w2, (Builtin.delete_ #[t, 9] ty #[.map (some b), .string x]).run Try.prog w = .ok (.tuple #[]) w2 ∧ Vm w2 b (D.del (ks x)) ∧ w.grownBy w2 (some b) ∧ w2.heap.size = w.heap.size := by
  obtain ⟨es, clock, hb, F, hD, hT⟩ := h
  obtain ⟨es', hrun, F', hs', hdel, _⟩ := fit_drop (ty := ty) KS ht hb F (keyS hx)
  refine ⟨_, hrun, ⟨es', clock, heap_setBlock_same hb _, F', ?_, hT.del x⟩, grown_set hb, by simp [setBlock]⟩
  rw [hD]
  show DataW.map _ = DataW.map _
  exact congrArg DataW.map hdel.symm
theorem Vm.len {w : World} {b : Nat} {D : VD} {t e : TypeId} (ty : TypeId) (h : Vm w b D) (ht : Try.prog.underlying t = some (.map 9 e)) :
    (Builtin.len_ #[t] ty #[.map (some b)]).run Try.prog w = .ok (.int .i64 (Maps.size D)) w := by
  obtain ⟨es, clock, hb, F, hD, hT⟩ := h
  rw [Vm.size_eq hD]
  simp [Builtin.len_, run_underlying ht, MapKept.run_getObj_map hb, goInt]
end Go.Proofs.Ythcjbljkokflgaa
