/- The replica: what it is, New, Token, More, Get. -/
import Derived.Test.YtpmgabeefppajaaOkw
namespace Go.Proofs.Ytpmgabeefppajaa
open Go.RowKit
open Go.Lib
set_option linter.unusedVariables false
set_option linter.unusedSimpArgs false
set_option maxRecDepth 100000
/-- A replica: its block, and the map of its cards. -/
def Rp (w : World) (g m : Nat) (L : List (ByteArray × (Int × ByteArray))) (tk : Int) (mo : Bool) : Prop :=
  Blk w g 67 #[.pointer (some ⟨m, 0, none⟩), .int .i64 tk, .bool mo] ∧ OK.Om w m L
theorem Rp.lt {w : World} {g m : Nat} {L : List (ByteArray × (Int × ByteArray))} {tk : Int} {mo : Bool} (h : Rp w g m L tk mo) : g < w.heap.size := by
  exact h.1.lt
theorem Rp.below {w w' : World} {g m : Nat} {L : List (ByteArray × (Int × ByteArray))} {tk : Int} {mo : Bool} (h : Rp w g m L tk mo) (hb : Below w.heap.size w w') : Rp w' g m L tk mo := ⟨h.1.below hb h.1.lt, h.2.below hb⟩
/-- What is neither the replica's nor its map's box is as it was. -/
structure Kr (w w' : World) (g m : Nat) : Prop where
  os : w'.os = w.os
  tape : w'.tape = w.tape
  output : w'.output = w.output
  size : w.heap.size ≤ w'.heap.size
  block : ∀ j, j < w.heap.size → j ≠ g → j ≠ m → w'.heap[j]? = w.heap[j]?
section
variable {w w' w2 : World} {g m m' g2 m2 B : Nat} {L : List (ByteArray × (Int × ByteArray))} {tk : Int} {mo : Bool}
theorem Kr.of (h : Below w.heap.size w w') : Kr w w' g m := ⟨h.os, h.tape, h.output, h.size, fun j hj _ _ => h.block j hj⟩
theorem Kr.below (h : Kr w w' g m) (hB : B ≤ w.heap.size) (hg : B ≤ g) (hm : B ≤ m) : Below B w w' := ⟨h.os, h.tape, h.output, h.size, fun j hj => h.block j (by omega) (by omega) (by omega)⟩
theorem Kr.trans (h : Kr w w' g m) (k : Kr w' w2 g m') (hm : m' = m ∨ w.heap.size ≤ m') : Kr w w2 g m :=
  ⟨k.os.trans h.os, k.tape.trans h.tape, k.output.trans h.output, Nat.le_trans h.size k.size, fun j hj h1 h2 => (k.block j (Nat.lt_of_lt_of_le hj h.size) h1 (by rcases hm with rfl | hm; exact h2; omega)).trans (h.block j hj h1 h2)⟩
theorem Kr.ofKo (h : OK.Ko w w' m) : Kr w w' g m := ⟨h.os, h.tape, h.output, h.size, fun j hj _ h2 => h.block j hj h2⟩
theorem Kr.set (h : Kr w w' g m) (i : Nat) (u : Value) : Kr w (w'.setCell ⟨g, i, none⟩ u) g m :=
  ⟨h.os, h.tape, h.output, by simpa [World.setCell] using h.size, fun j hj h1 h2 => (Below.heap_setCell w' ⟨g, i, none⟩ u j h1).trans (h.block j hj h1 h2)⟩
theorem Kr.alloc (h : Kr w w' g m) (o : Obj) : Kr w (w'.alloc o) g m := ⟨h.os, h.tape, h.output, by have := h.size; simp; omega, fun j hj h1 h2 => (Below.heap_alloc w' o j (Nat.lt_of_lt_of_le hj h.size)).trans (h.block j hj h1 h2)⟩
theorem Kr.step (h : Kr w w' g m) (k : Below w'.heap.size w' w2) : Kr w w2 g m := h.trans (Kr.of k) (.inl rfl)
theorem Kr.drew (h : Kr w w' g m) : Kr w w'.drew g m := ⟨h.os, h.tape, h.output, h.size, h.block⟩
/-- A box of another type than the replica's and its map's. -/
theorem Rp.far (h : Rp w g m L tk mo) {b : Nat} {t : TypeId} {cs : Array Value} (hb : Blk w b t cs) (h1 : t ≠ 67) (h2 : t ≠ 103) : b ≠ g ∧ b ≠ m := by
  constructor
  · rintro rfl
    have := h.1
    unfold Blk at this hb
    rw [hb] at this
    cases this
    exact h1 rfl
  · rintro rfl
    obtain ⟨p, this⟩ := h.2.box
    unfold Blk at this hb
    rw [hb] at this
    cases this
    exact h2 rfl
theorem Rp.gm (h : Rp w g m L tk mo) : g ≠ m := by
  rintro rfl
  obtain ⟨p, h2⟩ := h.2.box
  have := h.1
  unfold Blk at this h2
  rw [h2] at this
  cases this
theorem Kr.keepN (h : Kr w w' g m) (hr : Rp w g m L tk mo) : OK.KeepN w w' := fun b cs x => by
  obtain ⟨h1, h2⟩ := hr.far x (by decide) (by decide)
  exact (h.block b x.lt h1 h2).trans x
/-- Another replica stays as it is. -/
theorem Rp.keep {L2 : List (ByteArray × (Int × ByteArray))} {tk2 : Int} {mo2 : Bool} (h2 : Rp w g2 m2 L2 tk2 mo2) (hr : Rp w g m L tk mo) (k : Kr w w' g m) (hg : g2 ≠ g) (hm : m2 ≠ m) : Rp w' g2 m2 L2 tk2 mo2 := by
  have e1 : g2 ≠ m := by
    rintro rfl
    obtain ⟨p, h3⟩ := hr.2.box
    have := h2.1
    unfold Blk at this h3
    rw [h3] at this
    cases this
  have e2 : m2 ≠ g := by
    rintro rfl
    obtain ⟨p, h3⟩ := h2.2.box
    have := hr.1
    unfold Blk at this h3
    rw [h3] at this
    cases this
  exact ⟨(k.block g2 h2.1.lt hg e1).trans h2.1, h2.2.keep (k.block m2 h2.2.lt e2 hm) (k.keepN hr)⟩
end
theorem rp_new (w : World) : Calls Try.prog 10 #[] w fun e w' => ∃ g m, e = .returned (.pointer (some ⟨g, 0, none⟩)) ∧ Rp w' g m [] 0 false ∧ Below w.heap.size w w' ∧ w.heap.size ≤ g ∧ w.heap.size ≤ m := by
  have HN := Lib.hid (OK.om_new w)
  go_enter Try.func10, Try.ntmps10
  go_wp2_with fail
  refine HN.out.mono ?_
  rintro _ w1 ⟨m, rfl, h1, h2, h3⟩
  have H1 := Lib.hid h1
  have H2 := Lib.hid h2
  have H3 := Lib.hid h3
  clear h1 h2 h3 HN
  go_wp2
  go_ret
  have hb : Below w1.heap.size w1 (w1.alloc (.cells #[.pointer (some ⟨m, 0, none⟩), .int .i64 0, .bool false] 67)) := (Below.refl _ w1).alloc (Nat.le_refl _) _
  obtain ⟨t, h5, h6⟩ := H1.out
  exact ⟨_, _, rfl, ⟨Blk.new w1 67 _, t, h5.below hb, h6⟩, H2.out.trans (hb.mono H2.out.size), H2.out.size, H3.out⟩
theorem rp_token {w : World} {g m : Nat} {L : List (ByteArray × (Int × ByteArray))} {tk : Int} {mo : Bool} (h : Rp w g m L tk mo) : Calls Try.prog 16 #[.pointer (some ⟨g, 0, none⟩)] w fun e w' => e = .returned (.int .i64 tk) ∧ w' = w := by
  obtain ⟨h1, h2⟩ := h
  have c1 : w.cell? ⟨g, 1, none⟩ = some (.int .i64 tk) := h1.cell 1
  clear h1 h2
  go_enter Try.func16, Try.ntmps16
  go_wp2
  go_ret
  exact ⟨rfl, rfl⟩
theorem rp_more {w : World} {g m : Nat} {L : List (ByteArray × (Int × ByteArray))} {tk : Int} {mo : Bool} (h : Rp w g m L tk mo) : Calls Try.prog 17 #[.pointer (some ⟨g, 0, none⟩)] w fun e w' => e = .returned (.bool mo) ∧ w' = w := by
  obtain ⟨h1, h2⟩ := h
  have c1 : w.cell? ⟨g, 2, none⟩ = some (.bool mo) := h1.cell 2
  clear h1 h2
  go_enter Try.func17, Try.ntmps17
  go_wp2
  go_ret
  exact ⟨rfl, rfl⟩
theorem rp_get {w : World} {g m : Nat} {L : List (ByteArray × (Int × ByteArray))} {tk : Int} {mo : Bool} (h : Rp w g m L tk mo) (k : ByteArray) (o : Option (Int × ByteArray)) (ho : getL k L = o) : Calls Try.prog 14 #[.pointer (some ⟨g, 0, none⟩), .string k] w fun e w' => e = .returned (.tuple #[.int .i64 (o.getD (0, .empty)).1, .string (o.getD (0, .empty)).2, .bool o.isSome]) ∧ Below w.heap.size w w' := by
  obtain ⟨h1, h2⟩ := h
  have c0 : w.cell? ⟨g, 0, none⟩ = some (.pointer (some ⟨m, 0, none⟩)) := h1.cell 0
  have HG := Lib.hid (OK.om_get h2 k o ho)
  obtain ⟨x, hx⟩ : ∃ x, o.getD (0, .empty) = x := ⟨_, rfl⟩
  have HO : Hid (OK.ov o = .agg #[.int .i64 x.1, .string x.2]) := Lib.hid (by unfold OK.ov; rw [hx])
  rw [HO.out] at HG
  rw [hx]
  clear h1 h2 ho hx HO
  go_enter Try.func14, Try.ntmps14
  go_wp2_with fail
  refine HG.out.mono ?_
  rintro _ w1 ⟨rfl, hb⟩
  have HB := Lib.hid hb
  obtain ⟨W, hW⟩ : ∃ W, w1.alloc (.cells #[.int .i64 0, .string { data := #[] }] 65) = W := ⟨_, rfl⟩
  have HBW := Lib.hid (show Below w1.heap.size w1 W from hW ▸ (Below.refl _ w1).alloc (Nat.le_refl _) _)
  have HX := Lib.hid (show Blk W w1.heap.size 65 #[.int .i64 0, .string .empty] from hW ▸ Blk.new w1 65 _)
  have x0 : W.cell? ⟨w1.heap.size, 0, none⟩ = some (.int .i64 0) := HX.out.cell 0
  have x1 : W.cell? ⟨w1.heap.size, 1, none⟩ = some (.string .empty) := HX.out.cell 1
  have f0 := HX.out.frozen 0
  have f1 := HX.out.frozen 1
  have HY := Lib.hid ((HX.out.set_ 0 (.int .i64 x.1)).set_ 1 (.string x.2))
  have HBY := Lib.hid ((HBW.out.setCell (p := ⟨w1.heap.size, 0, none⟩) (Nat.le_refl _) (.int .i64 x.1)).setCell (p := ⟨w1.heap.size, 1, none⟩) (Nat.le_refl _) (.string x.2))
  clear hb
  go_wp2_with fail
  obtain ⟨W3, hW3⟩ : ∃ W3, (W.setCell ⟨w1.heap.size, 0, none⟩ (.int .i64 x.1)).setCell ⟨w1.heap.size, 1, none⟩ (.string x.2) = W3 := ⟨_, rfl⟩
  rw [hW3] at HY HBY ⊢
  have y0 : W3.cell? ⟨w1.heap.size, 0, none⟩ = some (.int .i64 x.1) := HY.out.cell 0
  have y1 : W3.cell? ⟨w1.heap.size, 1, none⟩ = some (.string x.2) := HY.out.cell 1
  clear hW3 hW x0 x1 f0 f1 HX c0
  go_region_held3 (fun w' => w'.cell? ⟨w1.heap.size, 0, none⟩ = some (.int .i64 x.1) ∧ w'.cell? ⟨w1.heap.size, 1, none⟩ = some (.string x.2)) (first | exact ⟨y0, y1⟩ | fail) (first | fail)
  all_goals (
    go_wp2
    go_ret3
    exact ⟨rfl, HB.out.trans ((HBY.out.drew).mono HB.out.size)⟩)
end Go.Proofs.Ytpmgabeefppajaa
