/- ReplicaTurned. -/
import Derived.Test.YtpmgabeefppajaaRk
import Derived.Deep.RegionHeld3
import Derived.Deep.DrawnRows
namespace Go.Proofs.Ytpmgabeefppajaa
open Go.RowKit
open Go.Lib
set_option linter.unusedVariables false
set_option linter.unusedSimpArgs false
set_option maxRecDepth 100000
/-- Fold with items that lie elsewhere than the replicas. -/
theorem T2.foldN {w wr : World} {g m : Nat} {R : Rs} {g2 m2 : Nat} {R2 : Rs} {n n2 : Nat} (h : T2 w wr g m R g2 m2 R2 n n2) (hn : n ≤ 100) {A : Option Addr} {len cap b off : Nat} {xs : List It} (hI : Its wr A len cap b off xs) (hbg : 0 < len → b ≠ g ∧ b ≠ m) (hl : len ≤ 120) (hu : ∀ t ∈ xs, t.u.size ≤ 60) (asked k e tok ver : Int) (card : ByteArray) (idx : Int) (more : Bool) (F : Rs) (hF : foldR R asked k e tok more xs = F) (E : Int) (hE : foldE R asked k e tok xs = E) :
    Calls Try.prog 12 #[.pointer (some ⟨g, 0, none⟩), .int .i64 asked, .agg (rqV k e tok ver card idx more (.slice A len cap))] wr fun x w' => x = .returned (.int .i64 E) ∧ ∃ m1, T2 w w' g m1 F g2 m2 R2 (n + 1) n2 ∧ (∀ b t cs, Blk wr b t cs → t ≠ 67 → t ≠ 103 → Blk w' b t cs) := by
  have hu' : ∀ t ∈ xs, t.u.size ≤ 1000000 := fun t ht => Nat.le_trans (hu t ht) (by decide)
  have hlen := h.s1.len
  have hg := h.s1.hg
  have hm := h.s1.hm
  refine (fold_any h.s1.rp hI hbg (by omega) (by omega) hu' asked k e tok ver card idx more F hF E hE).mono ?_
  rintro _ w' ⟨rfl, m1, hf⟩
  have hs := h.s1.bel.size
  have hm1 : w.heap.size ≤ m1 := by
    rcases hf.hm with e | e
    · rw [e]; exact hm
    · omega
  have hb : Below w.heap.size w w' := h.s1.bel.trans (hf.kr.below hs hg hm)
  refine ⟨rfl, m1, ⟨⟨hf.rp, ?_, ?_, hb, hg, hm1⟩, ⟨h.s2.rp.keep h.s1.rp hf.kr (fun e => h.hg e.symm) (fun e => h.hm e.symm), h.s2.len, h.s2.nms, hb, h.s2.hg, h.s2.hm⟩, h.hg, ?_⟩, fun b t cs hb h1 h2 => ?_⟩
  · rw [← hF]
    have := foldR_len h.s1.rp.2.srt asked k e tok more xs
    have e := hI.hlen
    omega
  · rw [← hF]; exact foldR_nms h.s1.nms hu' _ _ _ _ _
  · rcases hf.hm with e | e
    · rw [e]; exact h.hm
    · have := h.s2.rp.2.lt; omega
  · obtain ⟨e1, e2⟩ := h.s1.rp.far hb h1 h2
    exact (hf.kr.block b hb.lt e1 e2).trans hb
/-- The two replicas and the law's two boxes. -/
structure Tb (w wr : World) (g m : Nat) (R : Rs) (g2 m2 : Nat) (R2 : Rs) (n n2 X Y : Nat) (ca cb : Array Value) : Prop where
  t : T2 w wr g m R g2 m2 R2 n n2
  x : Blk wr X 35 ca
  y : Blk wr Y 35 cb
section
variable {w wr w' : World} {g m g2 m2 n n2 X Y : Nat} {R R2 : Rs} {ca cb : Array Value}
theorem Tb.swap (h : Tb w wr g m R g2 m2 R2 n n2 X Y ca cb) : Tb w wr g2 m2 R2 g m R n2 n X Y ca cb := ⟨h.t.swap, h.x, h.y⟩
theorem Tb.step (h : Tb w wr g m R g2 m2 R2 n n2 X Y ca cb) (hb : Below wr.heap.size wr w') : Tb w w' g m R g2 m2 R2 n n2 X Y ca cb := ⟨h.t.step hb, h.x.below hb h.x.lt, h.y.below hb h.y.lt⟩
theorem Tb.drew (h : Tb w wr g m R g2 m2 R2 n n2 X Y ca cb) : Tb w wr.drew g m R g2 m2 R2 n n2 X Y ca cb := h.step (Below.refl _ _).drew
theorem Tb.fold (h : Tb w wr g m R g2 m2 R2 n n2 X Y ca cb) (hn : n ≤ 100) {A : Option Addr} {len cap b off : Nat} {xs : List It} (hI : Its wr A len cap b off xs) (hbg : 0 < len → b ≠ g ∧ b ≠ m) (hl : len ≤ 120) (hu : ∀ t ∈ xs, t.u.size ≤ 60) (asked k e tok ver : Int) (card : ByteArray) (idx : Int) (more : Bool) (F : Rs) (hF : foldR R asked k e tok more xs = F) (E : Int) (hE : foldE R asked k e tok xs = E) :
    Calls Try.prog 12 #[.pointer (some ⟨g, 0, none⟩), .int .i64 asked, .agg (rqV k e tok ver card idx more (.slice A len cap))] wr fun x w' => x = .returned (.int .i64 E) ∧ ∃ m1, Tb w w' g m1 F g2 m2 R2 (n + 1) n2 X Y ca cb := by
  refine (h.t.foldN hn hI hbg hl hu asked k e tok ver card idx more F hF E hE).mono ?_
  rintro _ w' ⟨rfl, m1, ht, hk⟩
  exact ⟨rfl, m1, ht, hk X 35 _ h.x (by decide) (by decide), hk Y 35 _ h.y (by decide) (by decide)⟩
/-- An argument's items lie below the replicas. -/
theorem Tb.its (h : Tb w wr g m R g2 m2 R2 n n2 X Y ca cb) {A : Option Addr} {len cap b off : Nat} {xs : List It} (hI : Its w A len cap b off xs) : Its wr A len cap b off xs ∧ (0 < len → b ≠ g ∧ b ≠ m) :=
  ⟨hI.below h.t.s1.bel (fun hl => (hI.addr hl).2), fun hl => by
    have := (hI.addr hl).2
    have h1 := h.t.s1.hg
    have h2 := h.t.s1.hm
    exact ⟨by omega, by omega⟩⟩
/-- back, and what it makes lies apart. -/
theorem Tb.back (h : Tb w wr g m R g2 m2 R2 n n2 X Y ca cb) {A : Option Addr} {len cap b off : Nat} {xs : List It} (hI : Its w A len cap b off xs) (hl : len ≤ 120) (k e tok ver : Int) (card : ByteArray) (idx : Int) (more : Bool) :
    Calls Try.prog 21 #[.agg (rqV k e tok ver card idx more (.slice A len cap))] wr fun r w' => ∃ A' cap' b', r = .returned (.agg (rqV k e tok ver card idx more (.slice A' len cap'))) ∧ Tb w w' g m R g2 m2 R2 n n2 X Y ca cb ∧ Its w' A' len cap' b' 0 xs.reverse ∧ (0 < len → b' ≠ g2 ∧ b' ≠ m2) := by
  refine (back_any (h.its hI).1 hl k e tok ver card idx more).mono ?_
  rintro _ w' ⟨A', cap', b', rfl, h1, h2, h3⟩
  refine ⟨A', cap', b', rfl, h.step h3, h1, fun hl => ?_⟩
  have := h2 hl
  have e1 := h.t.s2.rp.lt
  have e2 := h.t.s2.rp.2.lt
  exact ⟨by omega, by omega⟩
end
set_option maxHeartbeats 32000000 in
theorem replicaTurned_walk (w : World) (a0 : Int) (w0 : (Lit.int .i64 a0).wf = true) (a1 : Int) (w1 : (Lit.int .i64 a1).wf = true) (a2 : Int) (w2 : (Lit.int .i64 a2).wf = true) (a3 : Int) (w3 : (Lit.int .i64 a3).wf = true) (a4 : ByteArray) (w4 : a4.size ≤ maxLen) (a5 : Int) (w5 : (Lit.int .i64 a5).wf = true) (a6 : Bool) (A7 : Option Addr) (len7 cap7 : Nat) (S7 : Sh.ok w (Sh.slice 4 (Sh.agg 4 [(0, 1, Sh.str), (1, 1, (Sh.int .i64)), (2, 1, Sh.bool), (3, 1, Sh.str)])) [.slice A7 len7 cap7]) (a8 : Int) (w8 : (Lit.int .i64 a8).wf = true) (a9 : Int) (w9 : (Lit.int .i64 a9).wf = true) (a10 : Int) (w10 : (Lit.int .i64 a10).wf = true) (a11 : Int) (w11 : (Lit.int .i64 a11).wf = true) (a12 : ByteArray) (w12 : a12.size ≤ maxLen) (a13 : Int) (w13 : (Lit.int .i64 a13).wf = true) (a14 : Bool) (A15 : Option Addr) (len15 cap15 : Nat) (S15 : Sh.ok w (Sh.slice 4 (Sh.agg 4 [(0, 1, Sh.str), (1, 1, (Sh.int .i64)), (2, 1, Sh.bool), (3, 1, Sh.str)])) [.slice A15 len15 cap15]) :
    Calls Try.prog 5 #[.agg #[.int .i64 a0, .int .i64 a1, .int .i64 a2, .int .i64 a3, .string a4, .int .i64 a5, .bool a6, .slice A7 len7 cap7], .agg #[.int .i64 a8, .int .i64 a9, .int .i64 a10, .int .i64 a11, .string a12, .int .i64 a13, .bool a14, .slice A15 len15 cap15]] w fun e w' => e = .returned (.bool true) ∧ Below w.heap.size w w' := by
  obtain ⟨b7, off7, xs, hI, _⟩ := its_open S7
  have HI := Lib.hid hI
  have hlen := hI.hlen
  have hlc := hI.le
  obtain ⟨b15, off15, ys, hJ, _⟩ := its_open S15
  have HJ := Lib.hid hJ
  have hlen2 := hJ.hlen
  have hlc2 := hJ.le
  clear S7 S15 hI hJ w0 w1 w2 w3 w4 w5 w8 w9 w10 w11 w12 w13
  obtain ⟨X, hX⟩ : ∃ X, w.heap.size = X := ⟨_, rfl⟩
  obtain ⟨W, hW⟩ : ∃ W, (w.alloc (.cells #[.int .i64 a0, .int .i64 a1, .int .i64 a2, .int .i64 a3, .string a4, .int .i64 a5, .bool a6, .slice A7 len7 cap7] 35)).alloc (.cells #[.int .i64 a8, .int .i64 a9, .int .i64 a10, .int .i64 a11, .string a12, .int .i64 a13, .bool a14, .slice A15 len15 cap15] 35) = W := ⟨_, rfl⟩
  have HX := Lib.hid (show Blk W X 35 #[.int .i64 a0, .int .i64 a1, .int .i64 a2, .int .i64 a3, .string a4, .int .i64 a5, .bool a6, .slice A7 len7 cap7] from hX ▸ hW ▸ (Blk.new w 35 _).alloc _)
  have HY := Lib.hid (show Blk W (X + 1) 35 #[.int .i64 a8, .int .i64 a9, .int .i64 a10, .int .i64 a11, .string a12, .int .i64 a13, .bool a14, .slice A15 len15 cap15] from by
    have := Blk.new (w.alloc (.cells #[.int .i64 a0, .int .i64 a1, .int .i64 a2, .int .i64 a3, .string a4, .int .i64 a5, .bool a6, .slice A7 len7 cap7] 35)) 35 #[.int .i64 a8, .int .i64 a9, .int .i64 a10, .int .i64 a11, .string a12, .int .i64 a13, .bool a14, .slice A15 len15 cap15]
    rw [World.size_alloc, hX, hW] at this
    exact this)
  have HBW := Lib.hid (show Below w.heap.size w W from hW ▸ ((Below.refl _ w).alloc (Nat.le_refl _) _).alloc (by simp) _)
  go_enter Try.func5, Try.ntmps5
  go_wp2_with fail
  try rw [hW]
  refine (first_any W).mono ?_
  rintro _ V1 ⟨rfl, hb⟩
  have HB1 := Lib.hid (HBW.out.trans (hb.mono HBW.out.size))
  have HX1 := Lib.hid (HX.out.below hb HX.out.lt)
  have HY1 := Lib.hid (HY.out.below hb HY.out.lt)
  have x0 := HX1.out.cell 0
  have x1 := HX1.out.cell 1
  have x2 := HX1.out.cell 2
  have x3 := HX1.out.cell 3
  have x4 := HX1.out.cell 4
  have x5 := HX1.out.cell 5
  have x6 := HX1.out.cell 6
  have x7 := HX1.out.cell 7
  have HL := Lib.hid (light_any (HI.out.below HB1.out (fun hl => (HI.out.addr hl).2)) a0 a1 a2 a3 a4 a5 a6)
  clear hb hX hW
  obtain ⟨y, hy⟩ : ∃ y, lightB a4 xs = y := ⟨_, rfl⟩
  have HYY := Lib.hid hy
  rw [hy] at HL
  clear hy
  go_wp2_with fail
  refine HL.out.mono ?_
  rintro _ V2 ⟨rfl, hb⟩
  have HB2 := Lib.hid (HB1.out.trans (hb.mono HB1.out.size))
  have HX2 := Lib.hid (HX1.out.below hb HX1.out.lt)
  have HY2 := Lib.hid (HY1.out.below hb HY1.out.lt)
  clear hb HL x0 x1 x2 x3 x4 x5 x6 x7
  have y0 := HY2.out.cell 0
  have y1 := HY2.out.cell 1
  have y2 := HY2.out.cell 2
  have y3 := HY2.out.cell 3
  have y4 := HY2.out.cell 4
  have y5 := HY2.out.cell 5
  have y6 := HY2.out.cell 6
  have y7 := HY2.out.cell 7
  cases y with
  | false =>
    go_wp2_with fail
    refine (first_any V2).mono ?_
    rintro _ Vf ⟨rfl, hb⟩
    have HBf := Lib.hid (HB2.out.trans (hb.mono HB2.out.size))
    clear hb
    go_wp2
    go_ret
    exact ⟨rfl, HBf.out⟩
  | true =>
    have HL := Lib.hid (light_any (HJ.out.below HB2.out (fun hl => (HJ.out.addr hl).2)) a8 a9 a10 a11 a12 a13 a14)
    obtain ⟨z, hz⟩ : ∃ z, lightB a12 ys = z := ⟨_, rfl⟩
    have HZZ := Lib.hid hz
    rw [hz] at HL
    clear hz
    go_wp2_with fail
    refine HL.out.mono ?_
    rintro _ V3 ⟨rfl, hb⟩
    have HB3 := Lib.hid (HB2.out.trans (hb.mono HB2.out.size))
    have HX3 := Lib.hid (HX2.out.below hb HX2.out.lt)
    have HY3 := Lib.hid (HY2.out.below hb HY2.out.lt)
    clear hb HL y0 y1 y2 y3 y4 y5 y6 y7
    cases z with
    | false =>
      go_wp2_with fail
      refine (first_any V3).mono ?_
      rintro _ Vf ⟨rfl, hb⟩
      have HBf := Lib.hid (HB3.out.trans (hb.mono HB3.out.size))
      clear hb
      go_wp2
      go_ret
      exact ⟨rfl, HBf.out⟩
    | true =>
      have HLa := Lib.hid (light_rq (w := w) (r := ⟨a0, a1, a2, a3, a4, a5, a6, A7, len7, cap7, b7, off7, xs⟩) HI.out HYY.out)
      have HLb := Lib.hid (light_rq (w := w) (r := ⟨a8, a9, a10, a11, a12, a13, a14, A15, len15, cap15, b15, off15, ys⟩) HJ.out HZZ.out)
      have HUr := Lib.hid (show ∀ t ∈ xs.reverse, t.u.size ≤ 60 from fun t ht => HLa.out.2 t (by simpa using ht))
      have HVr := Lib.hid (show ∀ t ∈ ys.reverse, t.u.size ≤ 60 from fun t ht => HLb.out.2 t (by simpa using ht))
      go_wp2_with fail
      refine (rp_new V3).mono ?_
      rintro _ V4 ⟨g, m, rfl, hr, hb, hg, hm⟩
      have HS4 := Lib.hid (Sr.new hr (HB3.out.trans (hb.mono HB3.out.size)) (Nat.le_trans HB3.out.size hg) (Nat.le_trans HB3.out.size hm))
      have HX4 := Lib.hid (HX3.out.below hb HX3.out.lt)
      have HY4 := Lib.hid (HY3.out.below hb HY3.out.lt)
      clear hr hb hg hm
      go_wp2_with fail
      refine (rp_new V4).mono ?_
      rintro _ V5 ⟨g2, m2, rfl, hr, hb, hg, hm⟩
      have HT5 := Lib.hid (show Tb w V5 g m ⟨[], 0, false⟩ g2 m2 ⟨[], 0, false⟩ 0 0 X (X + 1) #[.int .i64 a0, .int .i64 a1, .int .i64 a2, .int .i64 a3, .string a4, .int .i64 a5, .bool a6, .slice A7 len7 cap7] #[.int .i64 a8, .int .i64 a9, .int .i64 a10, .int .i64 a11, .string a12, .int .i64 a13, .bool a14, .slice A15 len15 cap15] from ⟨T2.new HS4.out hb hr hg hm, HX4.out.below hb HX4.out.lt, HY4.out.below hb HY4.out.lt⟩)
      clear hr hb hg hm
      obtain ⟨E, hE⟩ : ∃ E, foldE ⟨[], 0, false⟩ 0 a0 a1 a2 xs = E := ⟨_, rfl⟩
      obtain ⟨F, hF⟩ : ∃ F, foldR ⟨[], 0, false⟩ 0 a0 a1 a2 a6 xs = F := ⟨_, rfl⟩
      have HE := Lib.hid hE
      have HF := Lib.hid hF
      have HE2 := Lib.hid ((foldE_rev ⟨[], 0, false⟩ 0 a0 a1 a2 xs).trans hE)
      have HF2 := Lib.hid ((foldR_rev ⟨[], 0, false⟩ List.Pairwise.nil 0 a0 a1 a2 a6 xs).trans hF)
      have HFS := Lib.hid (show Srt F.L from hF ▸ foldR_srt (R := ⟨[], 0, false⟩) List.Pairwise.nil 0 a0 a1 a2 a6 xs)
      clear hE hF
      obtain ⟨E', hE⟩ : ∃ E', foldE F F.tk a8 a9 a10 ys = E' := ⟨_, rfl⟩
      obtain ⟨F', hF⟩ : ∃ F', foldR F F.tk a8 a9 a10 a14 ys = F' := ⟨_, rfl⟩
      have HE3 := Lib.hid hE
      have HF3 := Lib.hid hF
      have HE4 := Lib.hid ((foldE_rev F F.tk a8 a9 a10 ys).trans hE)
      have HF4 := Lib.hid ((foldR_rev F HFS.out F.tk a8 a9 a10 a14 ys).trans hF)
      clear hE hF
      have x0 := HT5.out.x.cell 0
      have x1 := HT5.out.x.cell 1
      have x2 := HT5.out.x.cell 2
      have x3 := HT5.out.x.cell 3
      have x4 := HT5.out.x.cell 4
      have x5 := HT5.out.x.cell 5
      have x6 := HT5.out.x.cell 6
      have x7 := HT5.out.x.cell 7
      have y0 := HT5.out.y.cell 0
      have y1 := HT5.out.y.cell 1
      have y2 := HT5.out.y.cell 2
      have y3 := HT5.out.y.cell 3
      have y4 := HT5.out.y.cell 4
      have y5 := HT5.out.y.cell 5
      have y6 := HT5.out.y.cell 6
      have y7 := HT5.out.y.cell 7
      go_wp2_with fail
      go_region_held3 (fun W => W.cell? ⟨X, 0, none⟩ = some (.int .i64 a0) ∧ W.cell? ⟨X, 1, none⟩ = some (.int .i64 a1) ∧ W.cell? ⟨X, 2, none⟩ = some (.int .i64 a2) ∧ W.cell? ⟨X, 3, none⟩ = some (.int .i64 a3) ∧ W.cell? ⟨X, 4, none⟩ = some (.string a4) ∧ W.cell? ⟨X, 5, none⟩ = some (.int .i64 a5) ∧ W.cell? ⟨X, 6, none⟩ = some (.bool a6) ∧ W.cell? ⟨X, 7, none⟩ = some (.slice A7 len7 cap7) ∧ W.cell? ⟨X + 1, 0, none⟩ = some (.int .i64 a8) ∧ W.cell? ⟨X + 1, 1, none⟩ = some (.int .i64 a9) ∧ W.cell? ⟨X + 1, 2, none⟩ = some (.int .i64 a10) ∧ W.cell? ⟨X + 1, 3, none⟩ = some (.int .i64 a11) ∧ W.cell? ⟨X + 1, 4, none⟩ = some (.string a12) ∧ W.cell? ⟨X + 1, 5, none⟩ = some (.int .i64 a13) ∧ W.cell? ⟨X + 1, 6, none⟩ = some (.bool a14) ∧ W.cell? ⟨X + 1, 7, none⟩ = some (.slice A15 len15 cap15)) (refine ⟨?_, ?_, ?_, ?_, ?_, ?_, ?_, ?_, ?_, ?_, ?_, ?_, ?_, ?_, ?_, ?_⟩ <;> assumption) (first
               | (go_at_call 12
                  (with_reducible refine (HT5.out.drew.fold (by decide) (HT5.out.drew.its HI.out).1 (HT5.out.drew.its HI.out).2 HLa.out.1 HLa.out.2 0 a0 a1 a2 a3 a4 a5 a6 F HF.out E HE.out).mono ?_)
                  rintro _ V6 ⟨rfl, m6, ht⟩
                  have HT6 := Lib.hid ht
                  clear ht HT5
                  have ca0 : V6.cell? ⟨X, 0, none⟩ = some (.int .i64 a0) := HT6.out.x.cell 0
                  have ca1 : V6.cell? ⟨X, 1, none⟩ = some (.int .i64 a1) := HT6.out.x.cell 1
                  have ca2 : V6.cell? ⟨X, 2, none⟩ = some (.int .i64 a2) := HT6.out.x.cell 2
                  have ca3 : V6.cell? ⟨X, 3, none⟩ = some (.int .i64 a3) := HT6.out.x.cell 3
                  have ca4 : V6.cell? ⟨X, 4, none⟩ = some (.string a4) := HT6.out.x.cell 4
                  have ca5 : V6.cell? ⟨X, 5, none⟩ = some (.int .i64 a5) := HT6.out.x.cell 5
                  have ca6 : V6.cell? ⟨X, 6, none⟩ = some (.bool a6) := HT6.out.x.cell 6
                  have ca7 : V6.cell? ⟨X, 7, none⟩ = some (.slice A7 len7 cap7) := HT6.out.x.cell 7
                  have da0 : V6.cell? ⟨X + 1, 0, none⟩ = some (.int .i64 a8) := HT6.out.y.cell 0
                  have da1 : V6.cell? ⟨X + 1, 1, none⟩ = some (.int .i64 a9) := HT6.out.y.cell 1
                  have da2 : V6.cell? ⟨X + 1, 2, none⟩ = some (.int .i64 a10) := HT6.out.y.cell 2
                  have da3 : V6.cell? ⟨X + 1, 3, none⟩ = some (.int .i64 a11) := HT6.out.y.cell 3
                  have da4 : V6.cell? ⟨X + 1, 4, none⟩ = some (.string a12) := HT6.out.y.cell 4
                  have da5 : V6.cell? ⟨X + 1, 5, none⟩ = some (.int .i64 a13) := HT6.out.y.cell 5
                  have da6 : V6.cell? ⟨X + 1, 6, none⟩ = some (.bool a14) := HT6.out.y.cell 6
                  have da7 : V6.cell? ⟨X + 1, 7, none⟩ = some (.slice A15 len15 cap15) := HT6.out.y.cell 7)
               | (go_at_call 21
                  (with_reducible refine (HT6.out.back HI.out HLa.out.1 a0 a1 a2 a3 a4 a5 a6).mono ?_)
                  rintro _ V7 ⟨A8, cap8, b8, rfl, ht, hi, hne⟩
                  have HT7 := Lib.hid ht
                  have HI7 := Lib.hid hi
                  have HN7 := Lib.hid hne
                  clear ht hi hne HT6
                  have cb0 : V7.cell? ⟨X, 0, none⟩ = some (.int .i64 a0) := HT7.out.x.cell 0
                  have cb1 : V7.cell? ⟨X, 1, none⟩ = some (.int .i64 a1) := HT7.out.x.cell 1
                  have cb2 : V7.cell? ⟨X, 2, none⟩ = some (.int .i64 a2) := HT7.out.x.cell 2
                  have cb3 : V7.cell? ⟨X, 3, none⟩ = some (.int .i64 a3) := HT7.out.x.cell 3
                  have cb4 : V7.cell? ⟨X, 4, none⟩ = some (.string a4) := HT7.out.x.cell 4
                  have cb5 : V7.cell? ⟨X, 5, none⟩ = some (.int .i64 a5) := HT7.out.x.cell 5
                  have cb6 : V7.cell? ⟨X, 6, none⟩ = some (.bool a6) := HT7.out.x.cell 6
                  have cb7 : V7.cell? ⟨X, 7, none⟩ = some (.slice A7 len7 cap7) := HT7.out.x.cell 7
                  have db0 : V7.cell? ⟨X + 1, 0, none⟩ = some (.int .i64 a8) := HT7.out.y.cell 0
                  have db1 : V7.cell? ⟨X + 1, 1, none⟩ = some (.int .i64 a9) := HT7.out.y.cell 1
                  have db2 : V7.cell? ⟨X + 1, 2, none⟩ = some (.int .i64 a10) := HT7.out.y.cell 2
                  have db3 : V7.cell? ⟨X + 1, 3, none⟩ = some (.int .i64 a11) := HT7.out.y.cell 3
                  have db4 : V7.cell? ⟨X + 1, 4, none⟩ = some (.string a12) := HT7.out.y.cell 4
                  have db5 : V7.cell? ⟨X + 1, 5, none⟩ = some (.int .i64 a13) := HT7.out.y.cell 5
                  have db6 : V7.cell? ⟨X + 1, 6, none⟩ = some (.bool a14) := HT7.out.y.cell 6
                  have db7 : V7.cell? ⟨X + 1, 7, none⟩ = some (.slice A15 len15 cap15) := HT7.out.y.cell 7)
               | (go_at_call 12
                  (with_reducible refine (HT7.out.swap.fold (by decide) HI7.out HN7.out HLa.out.1 HUr.out 0 a0 a1 a2 a3 a4 a5 a6 F HF2.out E HE2.out).mono ?_)
                  rintro _ V8 ⟨rfl, m8, ht⟩
                  have HT8 := Lib.hid ht.swap
                  clear ht HT7
                  have ce0 : V8.cell? ⟨X, 0, none⟩ = some (.int .i64 a0) := HT8.out.x.cell 0
                  have ce1 : V8.cell? ⟨X, 1, none⟩ = some (.int .i64 a1) := HT8.out.x.cell 1
                  have ce2 : V8.cell? ⟨X, 2, none⟩ = some (.int .i64 a2) := HT8.out.x.cell 2
                  have ce3 : V8.cell? ⟨X, 3, none⟩ = some (.int .i64 a3) := HT8.out.x.cell 3
                  have ce4 : V8.cell? ⟨X, 4, none⟩ = some (.string a4) := HT8.out.x.cell 4
                  have ce5 : V8.cell? ⟨X, 5, none⟩ = some (.int .i64 a5) := HT8.out.x.cell 5
                  have ce6 : V8.cell? ⟨X, 6, none⟩ = some (.bool a6) := HT8.out.x.cell 6
                  have ce7 : V8.cell? ⟨X, 7, none⟩ = some (.slice A7 len7 cap7) := HT8.out.x.cell 7
                  have de0 : V8.cell? ⟨X + 1, 0, none⟩ = some (.int .i64 a8) := HT8.out.y.cell 0
                  have de1 : V8.cell? ⟨X + 1, 1, none⟩ = some (.int .i64 a9) := HT8.out.y.cell 1
                  have de2 : V8.cell? ⟨X + 1, 2, none⟩ = some (.int .i64 a10) := HT8.out.y.cell 2
                  have de3 : V8.cell? ⟨X + 1, 3, none⟩ = some (.int .i64 a11) := HT8.out.y.cell 3
                  have de4 : V8.cell? ⟨X + 1, 4, none⟩ = some (.string a12) := HT8.out.y.cell 4
                  have de5 : V8.cell? ⟨X + 1, 5, none⟩ = some (.int .i64 a13) := HT8.out.y.cell 5
                  have de6 : V8.cell? ⟨X + 1, 6, none⟩ = some (.bool a14) := HT8.out.y.cell 6
                  have de7 : V8.cell? ⟨X + 1, 7, none⟩ = some (.slice A15 len15 cap15) := HT8.out.y.cell 7)
               | (go_at_call 16
                  (with_reducible refine (rp_token HT8.out.t.s1.rp).mono ?_)
                  rintro _ wz ⟨rfl, hw0⟩
                  replace hw0 := hw0.symm
                  subst hw0
                  have cf0 : V8.cell? ⟨X, 0, none⟩ = some (.int .i64 a0) := HT8.out.x.cell 0
                  have cf1 : V8.cell? ⟨X, 1, none⟩ = some (.int .i64 a1) := HT8.out.x.cell 1
                  have cf2 : V8.cell? ⟨X, 2, none⟩ = some (.int .i64 a2) := HT8.out.x.cell 2
                  have cf3 : V8.cell? ⟨X, 3, none⟩ = some (.int .i64 a3) := HT8.out.x.cell 3
                  have cf4 : V8.cell? ⟨X, 4, none⟩ = some (.string a4) := HT8.out.x.cell 4
                  have cf5 : V8.cell? ⟨X, 5, none⟩ = some (.int .i64 a5) := HT8.out.x.cell 5
                  have cf6 : V8.cell? ⟨X, 6, none⟩ = some (.bool a6) := HT8.out.x.cell 6
                  have cf7 : V8.cell? ⟨X, 7, none⟩ = some (.slice A7 len7 cap7) := HT8.out.x.cell 7
                  have df0 : V8.cell? ⟨X + 1, 0, none⟩ = some (.int .i64 a8) := HT8.out.y.cell 0
                  have df1 : V8.cell? ⟨X + 1, 1, none⟩ = some (.int .i64 a9) := HT8.out.y.cell 1
                  have df2 : V8.cell? ⟨X + 1, 2, none⟩ = some (.int .i64 a10) := HT8.out.y.cell 2
                  have df3 : V8.cell? ⟨X + 1, 3, none⟩ = some (.int .i64 a11) := HT8.out.y.cell 3
                  have df4 : V8.cell? ⟨X + 1, 4, none⟩ = some (.string a12) := HT8.out.y.cell 4
                  have df5 : V8.cell? ⟨X + 1, 5, none⟩ = some (.int .i64 a13) := HT8.out.y.cell 5
                  have df6 : V8.cell? ⟨X + 1, 6, none⟩ = some (.bool a14) := HT8.out.y.cell 6
                  have df7 : V8.cell? ⟨X + 1, 7, none⟩ = some (.slice A15 len15 cap15) := HT8.out.y.cell 7)
               | (go_at_call 12
                  (with_reducible refine (HT8.out.fold (by decide) (HT8.out.its HJ.out).1 (HT8.out.its HJ.out).2 HLb.out.1 HLb.out.2 F.tk a8 a9 a10 a11 a12 a13 a14 F' HF3.out E' HE3.out).mono ?_)
                  rintro _ V9 ⟨rfl, m9, ht⟩
                  have HT9 := Lib.hid ht
                  clear ht HT8
                  have cg0 : V9.cell? ⟨X, 0, none⟩ = some (.int .i64 a0) := HT9.out.x.cell 0
                  have cg1 : V9.cell? ⟨X, 1, none⟩ = some (.int .i64 a1) := HT9.out.x.cell 1
                  have cg2 : V9.cell? ⟨X, 2, none⟩ = some (.int .i64 a2) := HT9.out.x.cell 2
                  have cg3 : V9.cell? ⟨X, 3, none⟩ = some (.int .i64 a3) := HT9.out.x.cell 3
                  have cg4 : V9.cell? ⟨X, 4, none⟩ = some (.string a4) := HT9.out.x.cell 4
                  have cg5 : V9.cell? ⟨X, 5, none⟩ = some (.int .i64 a5) := HT9.out.x.cell 5
                  have cg6 : V9.cell? ⟨X, 6, none⟩ = some (.bool a6) := HT9.out.x.cell 6
                  have cg7 : V9.cell? ⟨X, 7, none⟩ = some (.slice A7 len7 cap7) := HT9.out.x.cell 7
                  have dg0 : V9.cell? ⟨X + 1, 0, none⟩ = some (.int .i64 a8) := HT9.out.y.cell 0
                  have dg1 : V9.cell? ⟨X + 1, 1, none⟩ = some (.int .i64 a9) := HT9.out.y.cell 1
                  have dg2 : V9.cell? ⟨X + 1, 2, none⟩ = some (.int .i64 a10) := HT9.out.y.cell 2
                  have dg3 : V9.cell? ⟨X + 1, 3, none⟩ = some (.int .i64 a11) := HT9.out.y.cell 3
                  have dg4 : V9.cell? ⟨X + 1, 4, none⟩ = some (.string a12) := HT9.out.y.cell 4
                  have dg5 : V9.cell? ⟨X + 1, 5, none⟩ = some (.int .i64 a13) := HT9.out.y.cell 5
                  have dg6 : V9.cell? ⟨X + 1, 6, none⟩ = some (.bool a14) := HT9.out.y.cell 6
                  have dg7 : V9.cell? ⟨X + 1, 7, none⟩ = some (.slice A15 len15 cap15) := HT9.out.y.cell 7)
               | (go_at_call 16
                  (with_reducible refine (rp_token HT9.out.t.s2.rp).mono ?_)
                  rintro _ wz ⟨rfl, hw0⟩
                  replace hw0 := hw0.symm
                  subst hw0
                  have ch0 : V9.cell? ⟨X, 0, none⟩ = some (.int .i64 a0) := HT9.out.x.cell 0
                  have ch1 : V9.cell? ⟨X, 1, none⟩ = some (.int .i64 a1) := HT9.out.x.cell 1
                  have ch2 : V9.cell? ⟨X, 2, none⟩ = some (.int .i64 a2) := HT9.out.x.cell 2
                  have ch3 : V9.cell? ⟨X, 3, none⟩ = some (.int .i64 a3) := HT9.out.x.cell 3
                  have ch4 : V9.cell? ⟨X, 4, none⟩ = some (.string a4) := HT9.out.x.cell 4
                  have ch5 : V9.cell? ⟨X, 5, none⟩ = some (.int .i64 a5) := HT9.out.x.cell 5
                  have ch6 : V9.cell? ⟨X, 6, none⟩ = some (.bool a6) := HT9.out.x.cell 6
                  have ch7 : V9.cell? ⟨X, 7, none⟩ = some (.slice A7 len7 cap7) := HT9.out.x.cell 7
                  have dh0 : V9.cell? ⟨X + 1, 0, none⟩ = some (.int .i64 a8) := HT9.out.y.cell 0
                  have dh1 : V9.cell? ⟨X + 1, 1, none⟩ = some (.int .i64 a9) := HT9.out.y.cell 1
                  have dh2 : V9.cell? ⟨X + 1, 2, none⟩ = some (.int .i64 a10) := HT9.out.y.cell 2
                  have dh3 : V9.cell? ⟨X + 1, 3, none⟩ = some (.int .i64 a11) := HT9.out.y.cell 3
                  have dh4 : V9.cell? ⟨X + 1, 4, none⟩ = some (.string a12) := HT9.out.y.cell 4
                  have dh5 : V9.cell? ⟨X + 1, 5, none⟩ = some (.int .i64 a13) := HT9.out.y.cell 5
                  have dh6 : V9.cell? ⟨X + 1, 6, none⟩ = some (.bool a14) := HT9.out.y.cell 6
                  have dh7 : V9.cell? ⟨X + 1, 7, none⟩ = some (.slice A15 len15 cap15) := HT9.out.y.cell 7)
               | (go_at_call 21
                  (with_reducible refine (HT9.out.back HJ.out HLb.out.1 a8 a9 a10 a11 a12 a13 a14).mono ?_)
                  rintro _ V10 ⟨A9, cap9, b9, rfl, ht, hi, hne⟩
                  have HT10 := Lib.hid ht
                  have HI10 := Lib.hid hi
                  have HN10 := Lib.hid hne
                  clear ht hi hne HT9
                  have ci0 : V10.cell? ⟨X, 0, none⟩ = some (.int .i64 a0) := HT10.out.x.cell 0
                  have ci1 : V10.cell? ⟨X, 1, none⟩ = some (.int .i64 a1) := HT10.out.x.cell 1
                  have ci2 : V10.cell? ⟨X, 2, none⟩ = some (.int .i64 a2) := HT10.out.x.cell 2
                  have ci3 : V10.cell? ⟨X, 3, none⟩ = some (.int .i64 a3) := HT10.out.x.cell 3
                  have ci4 : V10.cell? ⟨X, 4, none⟩ = some (.string a4) := HT10.out.x.cell 4
                  have ci5 : V10.cell? ⟨X, 5, none⟩ = some (.int .i64 a5) := HT10.out.x.cell 5
                  have ci6 : V10.cell? ⟨X, 6, none⟩ = some (.bool a6) := HT10.out.x.cell 6
                  have ci7 : V10.cell? ⟨X, 7, none⟩ = some (.slice A7 len7 cap7) := HT10.out.x.cell 7
                  have di0 : V10.cell? ⟨X + 1, 0, none⟩ = some (.int .i64 a8) := HT10.out.y.cell 0
                  have di1 : V10.cell? ⟨X + 1, 1, none⟩ = some (.int .i64 a9) := HT10.out.y.cell 1
                  have di2 : V10.cell? ⟨X + 1, 2, none⟩ = some (.int .i64 a10) := HT10.out.y.cell 2
                  have di3 : V10.cell? ⟨X + 1, 3, none⟩ = some (.int .i64 a11) := HT10.out.y.cell 3
                  have di4 : V10.cell? ⟨X + 1, 4, none⟩ = some (.string a12) := HT10.out.y.cell 4
                  have di5 : V10.cell? ⟨X + 1, 5, none⟩ = some (.int .i64 a13) := HT10.out.y.cell 5
                  have di6 : V10.cell? ⟨X + 1, 6, none⟩ = some (.bool a14) := HT10.out.y.cell 6
                  have di7 : V10.cell? ⟨X + 1, 7, none⟩ = some (.slice A15 len15 cap15) := HT10.out.y.cell 7)
               | (go_at_call 12
                  (with_reducible refine (HT10.out.swap.fold (by decide) HI10.out HN10.out HLb.out.1 HVr.out F.tk a8 a9 a10 a11 a12 a13 a14 F' HF4.out E' HE4.out).mono ?_)
                  rintro _ V11 ⟨rfl, m11, ht⟩
                  have HT11 := Lib.hid ht.swap
                  clear ht HT10
                  have cj0 : V11.cell? ⟨X, 0, none⟩ = some (.int .i64 a0) := HT11.out.x.cell 0
                  have cj1 : V11.cell? ⟨X, 1, none⟩ = some (.int .i64 a1) := HT11.out.x.cell 1
                  have cj2 : V11.cell? ⟨X, 2, none⟩ = some (.int .i64 a2) := HT11.out.x.cell 2
                  have cj3 : V11.cell? ⟨X, 3, none⟩ = some (.int .i64 a3) := HT11.out.x.cell 3
                  have cj4 : V11.cell? ⟨X, 4, none⟩ = some (.string a4) := HT11.out.x.cell 4
                  have cj5 : V11.cell? ⟨X, 5, none⟩ = some (.int .i64 a5) := HT11.out.x.cell 5
                  have cj6 : V11.cell? ⟨X, 6, none⟩ = some (.bool a6) := HT11.out.x.cell 6
                  have cj7 : V11.cell? ⟨X, 7, none⟩ = some (.slice A7 len7 cap7) := HT11.out.x.cell 7
                  have dj0 : V11.cell? ⟨X + 1, 0, none⟩ = some (.int .i64 a8) := HT11.out.y.cell 0
                  have dj1 : V11.cell? ⟨X + 1, 1, none⟩ = some (.int .i64 a9) := HT11.out.y.cell 1
                  have dj2 : V11.cell? ⟨X + 1, 2, none⟩ = some (.int .i64 a10) := HT11.out.y.cell 2
                  have dj3 : V11.cell? ⟨X + 1, 3, none⟩ = some (.int .i64 a11) := HT11.out.y.cell 3
                  have dj4 : V11.cell? ⟨X + 1, 4, none⟩ = some (.string a12) := HT11.out.y.cell 4
                  have dj5 : V11.cell? ⟨X + 1, 5, none⟩ = some (.int .i64 a13) := HT11.out.y.cell 5
                  have dj6 : V11.cell? ⟨X + 1, 6, none⟩ = some (.bool a14) := HT11.out.y.cell 6
                  have dj7 : V11.cell? ⟨X + 1, 7, none⟩ = some (.slice A15 len15 cap15) := HT11.out.y.cell 7)
               | fail)
      all_goals (
        have HTT := Lib.hid HT11.out.t
        have HK1 := Lib.hid (rp_token HTT.out.s1.rp)
        have HK2 := Lib.hid (rp_token HTT.out.s2.rp)
        have HN1 := Lib.hid (rp_more HTT.out.s1.rp)
        have HN2 := Lib.hid (rp_more HTT.out.s2.rp)
        have HD1 := Lib.hid (HTT.out.s1.cards (by omega))
        have HLEN := Lib.hid (show F'.L.length ≤ 100000 by have := HTT.out.s1.len; omega)
        clear cj0 cj1 cj2 cj3 cj4 cj5 cj6 cj7 dj0 dj1 dj2 dj3 dj4 dj5 dj6 dj7 HT11
        go_wp2_with fail
        refine HK1.out.mono ?_
        rintro _ wz ⟨rfl, hw0⟩
        replace hw0 := hw0.symm
        subst hw0
        go_wp2_with fail
        refine HK2.out.mono ?_
        rintro _ wz ⟨rfl, hw0⟩
        replace hw0 := hw0.symm
        subst hw0
        go_wp2_with fail
        refine HN1.out.mono ?_
        rintro _ wz ⟨rfl, hw0⟩
        replace hw0 := hw0.symm
        subst hw0
        go_wp2_with fail
        refine HN2.out.mono ?_
        rintro _ wz ⟨rfl, hw0⟩
        replace hw0 := hw0.symm
        subst hw0
        go_wp2_with fail
        refine HD1.out.mono ?_
        rintro _ V12 ⟨Aa, capa, ba, rfl, hia, hb12, _⟩
        have HT12 := Lib.hid (HTT.out.step hb12)
        have HIa := Lib.hid hia
        clear hia hb12 HD1 HK1 HK2 HN1 HN2
        have HD2 := Lib.hid (HT12.out.s2.cards (by omega))
        go_wp2_with fail
        refine HD2.out.mono ?_
        rintro _ V13 ⟨Ab, capb, bb, rfl, hib, hb13, _⟩
        have HT13 := Lib.hid (HT12.out.step hb13)
        have HAL := Lib.hid (alike_any (HIa.out.below hb13 (fun hl => (HIa.out.addr hl).2)) hib HLEN.out)
        clear hib hb13 HD2
        go_wp2_with fail
        refine HAL.out.mono ?_
        rintro _ V14 ⟨rfl, hb14⟩
        have HT14 := Lib.hid (HT13.out.step hb14)
        clear hb14 HAL
        go_wp2
        go_ret
        exact ⟨rfl, HT14.out.s1.bel⟩)
end Go.Proofs.Ytpmgabeefppajaa
