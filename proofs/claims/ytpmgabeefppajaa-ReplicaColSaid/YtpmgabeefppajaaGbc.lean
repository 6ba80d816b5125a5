/- The replica: may an answer follow? -/
import Derived.Test.YtpmgabeefppajaaGbb
import Derived.RangeFuncWrites
import Derived.RangeFuncBox
import Derived.Maps.AppendAt
import Derived.Laws.MakeOwn
import Derived.Test.YtpmgabeefppajaaGaa
import Derived.Test.YtpmgabeefppajaaGab
import Derived.Maps.Own
import Derived.StringKeys
import Derived.Test.YtpmgabeefppajaaProg
import Derived.Maps.OwnOps
import Derived.Maps.Views
import Derived.BigQuiet
import Derived.RegionTactic
import Derived.Deep.QuietTactic
set_option linter.unnecessarySimpa false
/- Maps over trees (values: Int × ByteArray): Under and All as iterators; Keys. -/
namespace Go.Proofs.Ytpmgabeefppajaa.OK
open Go.RowKit
open Go.Lib
set_option linter.unusedVariables false
set_option linter.unusedSimpArgs false
set_option maxRecDepth 100000
open Go.Shelf
attribute [local go_sem] Oper.semAt_some
theorem KeepN.grown {W w1 : World} {base : Nat} {e : TypeId} {size : Nat} {v : Value} {k : Nat} {xs : List Value} (hrow : W.ownsRow base e size v k xs) (he : e ≠ 110) (hg : W.grownBy w1 v.ownBlock) : KeepN W w1 := fun b cs x => (hg.block b x.lt (fun eq => by
  rcases hrow.2 with ⟨rfl, _⟩ | ⟨g, cap, cur, rfl, _, hgb, _⟩
  · cases eq
  · obtain rfl : b = g := Option.some.inj eq
    unfold Blk at x
    rw [hgb] at x
    cases x
    exact he rfl)).trans x
theorem KeepN.put {w : World} (W : World) (l : Nat) (o o' : Obj) (_ : w.heap.size ≤ l) (h : W.heap[l]? = some o) (hc : o.isCells = false) (_ : o.isWalk = false) : KeepN W (W.putObj l o') := fun b cs x => (World.putObj_heap_other (fun e => by
  subst e
  unfold Blk at x
  rw [h] at x
  cases x
  cases hc)).trans x
set_option maxHeartbeats 4000000 in
theorem und_stops (n Bm Bx g : Nat) (t : T) (px : ByteArray) (hpx : px.size ≤ 1000000) (w : World) (hBm : Bm < w.heap.size) (hBx : Bx < w.heap.size) (cm : w.cell? ⟨Bm, 0, none⟩ = some (.pointer (some ⟨g, 0, none⟩))) (cx : w.cell? ⟨Bx, 0, none⟩ = some (.string px)) (hM : Mt w g t) (hks : ∀ q ∈ t.ino, q.1.size ≤ 1000000) :
    SeqStopsK Fence.wide n Try.prog 63 #[.pointer (some ⟨Bm, 0, none⟩), .pointer (some ⟨Bx, 0, none⟩)] enI KeepN (fun ys => ys = Tr.und px t) (fun pre => pre <+: Tr.und px t) (Tr.und px t).length w := fun l J Jx W hW hJ hJx hY h0 => by
  obtain ⟨p, hb, ht⟩ := hM.below hW
  have d0 : W.drew.cell? ⟨Bm, 0, none⟩ = some (.pointer (some ⟨g, 0, none⟩)) := (hW.cell (p := ⟨Bm, 0, none⟩) hBm).trans cm
  have d1 : W.drew.cell? ⟨Bx, 0, none⟩ = some (.string px) := (hW.cell (p := ⟨Bx, 0, none⟩) hBx).trans cx
  have d2 : W.drew.cell? ⟨g, 0, none⟩ = some (.pointer p) := hb.cell 0
  have hJd : J [] W.drew := hJ _ _ _ none h0 ⟨rfl, rfl, rfl, Nat.le_refl _, fun _ _ _ => rfl⟩ (fun r e => by cases e)
  have hp := under_in l (Tr.und px t).length W.heap.size J Jx hJ (fun m pre x W1 hj hl => YieldAt_anyDepth rfl m (hY pre x W1 hj hl)) px hpx t (n - 1) p [] W.drew (ht.keep (KeepN.drew W)) hks hJd (by simp)
  have hp2 := hp.mono (R' := fun e W' => ∃ bb, e = .returned (.bool bb) ∧ ((∃ ys, ys = Tr.und px t ∧ J ys W') ∨ (∃ pre, pre <+: Tr.und px t ∧ Jx pre W'))) (fun e W1 h => h.elim (fun ⟨he, hj, _⟩ => ⟨true, he, .inl ⟨_, rfl, by simpa using hj⟩⟩) (fun ⟨he, q, hq, hx⟩ => ⟨false, he, .inr ⟨q, hq, by simpa using hx⟩⟩))
  clear hp
  have hd : Fence.wide.depth = none := rfl
  have hall : ∀ f, Fence.wide.fn f := fun _ => trivial
  have hro : Fence.wide.round = none := rfl
  refine callsIn_of_wp Try.func63 rfl (hall _) ?_ hro
  simp only [Try.ntmps63, List.size_toArray, List.length_cons, List.length_nil, Nat.reduceAdd, Nat.reduceSub, Array.replicate_succ, Array.replicate_zero, List.push_toArray, List.append_toArray, List.nil_append, List.cons_append]
  gi_wp2
  gi_region_with (gi_at_call 64; refine hp2.mono ?_; clear hp2; rintro e W1 ⟨bb, rfl, hh⟩)
  all_goals (
    gi_wp2
    go_end0
    exact ⟨⟨_, rfl⟩, hh⟩)
theorem under_fn (g : Nat) (px : ByteArray) (w : World) : Calls Try.prog 51 #[.pointer (some ⟨g, 0, none⟩), .string px] w fun e w' => e = .returned (.func (.func 63) #[] #[.pointer (some ⟨w.heap.size, 0, none⟩), .pointer (some ⟨w.heap.size + 1, 0, none⟩)]) ∧ w' = (w.alloc (.cells #[.pointer (some ⟨g, 0, none⟩)] 62)).alloc (.cells #[.string px] 9) := by
  go_enter Try.func51, Try.ntmps51
  go_wp2
  go_ret
  exact ⟨rfl, rfl⟩
theorem all_fn (g : Nat) (w : World) : Calls Try.prog 35 #[.pointer (some ⟨g, 0, none⟩)] w fun e w' => e = .returned (.func (.func 63) #[] #[.pointer (some ⟨w.heap.size, 0, none⟩), .pointer (some ⟨w.heap.size + 1, 0, none⟩)]) ∧ w' = (w.alloc (.cells #[.pointer (some ⟨g, 0, none⟩)] 62)).alloc (.cells #[.string .empty] 9) := by
  have H := Lib.hid (under_fn g .empty w)
  go_enter Try.func35, Try.ntmps35
  go_wp2_with fail
  refine H.out.mono ?_
  rintro _ wz ⟨rfl, hw0⟩
  replace hw0 := hw0.symm
  subst hw0
  go_wp2
  go_ret
  exact ⟨rfl, rfl⟩
end Go.Proofs.Ytpmgabeefppajaa.OK
/- The replica: what it is, New, Token, More, Get. -/
namespace Go.Proofs.Ytpmgabeefppajaa.Cp
open Go.RowKit
open Go.Lib
set_option linter.unusedVariables false
set_option linter.unusedSimpArgs false
set_option maxRecDepth 100000
/-- A replica: its block, and the map of its cards. -/
def Rp (w : World) (g m : Nat) (L : List (ByteArray × (Int × ByteArray))) (tk : Int) (mo : Bool) : Prop :=
  Blk w g 67 #[.pointer (some ⟨m, 0, none⟩), .int .i64 tk, .bool mo] ∧ OK.Om w m L
theorem Rp.lt {w : World} {g m : Nat} {L : List (ByteArray × (Int × ByteArray))} {tk : Int} {mo : Bool} (h : Rp w g m L tk mo) : g < w.heap.size := by
  exact h.1.lt
theorem Rp.below {w w' : World} {g m : Nat} {L : List (ByteArray × (Int × ByteArray))} {tk : Int} {mo : Bool} (h : Rp w g m L tk mo) (hb : Below w.heap.size w w') : Rp w' g m L tk mo := ⟨h.1.below hb h.1.lt, h.2.below hb⟩
/-- What is neither the replica's nor its map's box is as it was. -/
structure Kr (w w' : World) (g m : Nat) : Prop where
  os : w'.os = w.os
  tape : w'.tape = w.tape
  output : w'.output = w.output
  size : w.heap.size ≤ w'.heap.size
  block : ∀ j, j < w.heap.size → j ≠ g → j ≠ m → w'.heap[j]? = w.heap[j]?
section
variable {w w' w2 : World} {g m m' g2 m2 B : Nat} {L : List (ByteArray × (Int × ByteArray))} {tk : Int} {mo : Bool}
theorem Kr.of (h : Below w.heap.size w w') : Kr w w' g m := ⟨h.os, h.tape, h.output, h.size, fun j hj _ _ => h.block j hj⟩
theorem Kr.below (h : Kr w w' g m) (hB : B ≤ w.heap.size) (hg : B ≤ g) (hm : B ≤ m) : Below B w w' := ⟨h.os, h.tape, h.output, h.size, fun j hj => h.block j (by omega) (by omega) (by omega)⟩
theorem Kr.trans (h : Kr w w' g m) (k : Kr w' w2 g m') (hm : m' = m ∨ w.heap.size ≤ m') : Kr w w2 g m :=
  ⟨k.os.trans h.os, k.tape.trans h.tape, k.output.trans h.output, Nat.le_trans h.size k.size, fun j hj h1 h2 => (k.block j (Nat.lt_of_lt_of_le hj h.size) h1 (by rcases hm with rfl | hm; exact h2; omega)).trans (h.block j hj h1 h2)⟩
theorem Kr.set (h : Kr w w' g m) (i : Nat) (u : Value) : Kr w (w'.setCell ⟨g, i, none⟩ u) g m :=
  ⟨h.os, h.tape, h.output, by simpa [World.setCell] using h.size, fun j hj h1 h2 => (Below.heap_setCell w' ⟨g, i, none⟩ u j h1).trans (h.block j hj h1 h2)⟩
theorem Kr.step (h : Kr w w' g m) (k : Below w'.heap.size w' w2) : Kr w w2 g m := h.trans (Kr.of k) (.inl rfl)
theorem Kr.drew (h : Kr w w' g m) : Kr w w'.drew g m := ⟨h.os, h.tape, h.output, h.size, h.block⟩
/-- A box of another type than the replica's and its map's. -/
theorem Rp.far (h : Rp w g m L tk mo) {b : Nat} {t : TypeId} {cs : Array Value} (hb : Blk w b t cs) (h1 : t ≠ 67) (h2 : t ≠ 103) : b ≠ g ∧ b ≠ m := by
  constructor
  · rintro rfl
    have := h.1
    unfold Blk at this hb
    rw [hb] at this
    cases this
    exact h1 rfl
  · rintro rfl
    obtain ⟨p, this⟩ := h.2.box
    unfold Blk at this hb
    rw [hb] at this
    cases this
    exact h2 rfl
theorem Rp.gm (h : Rp w g m L tk mo) : g ≠ m := by
  rintro rfl
  obtain ⟨p, h2⟩ := h.2.box
  have := h.1
  unfold Blk at this h2
  rw [h2] at this
  cases this
end
theorem rp_new (w : World) : Calls Try.prog 10 #[] w fun e w' => ∃ g m, e = .returned (.pointer (some ⟨g, 0, none⟩)) ∧ Rp w' g m [] 0 false ∧ Below w.heap.size w w' ∧ w.heap.size ≤ g ∧ w.heap.size ≤ m := by
  have HN := Lib.hid (OK.om_new w)
  go_enter Try.func10, Try.ntmps10
  go_wp2_with fail
  refine HN.out.mono ?_
  rintro _ w1 ⟨m, rfl, h1, h2, h3⟩
  have H1 := Lib.hid h1
  have H2 := Lib.hid h2
  have H3 := Lib.hid h3
  clear h1 h2 h3 HN
  go_wp2
  go_ret
  have hb : Below w1.heap.size w1 (w1.alloc (.cells #[.pointer (some ⟨m, 0, none⟩), .int .i64 0, .bool false] 67)) := (Below.refl _ w1).alloc (Nat.le_refl _) _
  obtain ⟨t, h5, h6⟩ := H1.out
  exact ⟨_, _, rfl, ⟨Blk.new w1 67 _, t, h5.below hb, h6⟩, H2.out.trans (hb.mono H2.out.size), H2.out.size, H3.out⟩
theorem rp_token {w : World} {g m : Nat} {L : List (ByteArray × (Int × ByteArray))} {tk : Int} {mo : Bool} (h : Rp w g m L tk mo) : Calls Try.prog 16 #[.pointer (some ⟨g, 0, none⟩)] w fun e w' => e = .returned (.int .i64 tk) ∧ w' = w := by
  obtain ⟨h1, h2⟩ := h
  have c1 : w.cell? ⟨g, 1, none⟩ = some (.int .i64 tk) := h1.cell 1
  clear h1 h2
  go_enter Try.func16, Try.ntmps16
  go_wp2
  go_ret
  exact ⟨rfl, rfl⟩
theorem rp_more {w : World} {g m : Nat} {L : List (ByteArray × (Int × ByteArray))} {tk : Int} {mo : Bool} (h : Rp w g m L tk mo) : Calls Try.prog 17 #[.pointer (some ⟨g, 0, none⟩)] w fun e w' => e = .returned (.bool mo) ∧ w' = w := by
  obtain ⟨h1, h2⟩ := h
  have c1 : w.cell? ⟨g, 2, none⟩ = some (.bool mo) := h1.cell 2
  clear h1 h2
  go_enter Try.func17, Try.ntmps17
  go_wp2
  go_ret
  exact ⟨rfl, rfl⟩
theorem rp_get {w : World} {g m : Nat} {L : List (ByteArray × (Int × ByteArray))} {tk : Int} {mo : Bool} (h : Rp w g m L tk mo) (k : ByteArray) (o : Option (Int × ByteArray)) (ho : getL k L = o) : Calls Try.prog 14 #[.pointer (some ⟨g, 0, none⟩), .string k] w fun e w' => e = .returned (.tuple #[.int .i64 (o.getD (0, .empty)).1, .string (o.getD (0, .empty)).2, .bool o.isSome]) ∧ Below w.heap.size w w' := by
  obtain ⟨h1, h2⟩ := h
  have c0 : w.cell? ⟨g, 0, none⟩ = some (.pointer (some ⟨m, 0, none⟩)) := h1.cell 0
  have HG := Lib.hid (OK.om_get h2 k o ho)
  obtain ⟨x, hx⟩ : ∃ x, o.getD (0, .empty) = x := ⟨_, rfl⟩
  have HO : Hid (OK.ov o = .agg #[.int .i64 x.1, .string x.2]) := Lib.hid (by unfold OK.ov; rw [hx])
  rw [HO.out] at HG
  rw [hx]
  clear h1 h2 ho hx HO
  go_enter Try.func14, Try.ntmps14
  go_wp2_with fail
  refine HG.out.mono ?_
  rintro _ w1 ⟨rfl, hb⟩
  have HB := Lib.hid hb
  obtain ⟨W, hW⟩ : ∃ W, w1.alloc (.cells #[.int .i64 0, .string { data := #[] }] 65) = W := ⟨_, rfl⟩
  have HBW := Lib.hid (show Below w1.heap.size w1 W from hW ▸ (Below.refl _ w1).alloc (Nat.le_refl _) _)
  have HX := Lib.hid (show Blk W w1.heap.size 65 #[.int .i64 0, .string .empty] from hW ▸ Blk.new w1 65 _)
  have x0 : W.cell? ⟨w1.heap.size, 0, none⟩ = some (.int .i64 0) := HX.out.cell 0
  have x1 : W.cell? ⟨w1.heap.size, 1, none⟩ = some (.string .empty) := HX.out.cell 1
  have f0 := HX.out.frozen 0
  have f1 := HX.out.frozen 1
  have HY := Lib.hid ((HX.out.set_ 0 (.int .i64 x.1)).set_ 1 (.string x.2))
  have HBY := Lib.hid ((HBW.out.setCell (p := ⟨w1.heap.size, 0, none⟩) (Nat.le_refl _) (.int .i64 x.1)).setCell (p := ⟨w1.heap.size, 1, none⟩) (Nat.le_refl _) (.string x.2))
  clear hb
  go_wp2_with fail
  obtain ⟨W3, hW3⟩ : ∃ W3, (W.setCell ⟨w1.heap.size, 0, none⟩ (.int .i64 x.1)).setCell ⟨w1.heap.size, 1, none⟩ (.string x.2) = W3 := ⟨_, rfl⟩
  rw [hW3] at HY HBY ⊢
  have y0 : W3.cell? ⟨w1.heap.size, 0, none⟩ = some (.int .i64 x.1) := HY.out.cell 0
  have y1 : W3.cell? ⟨w1.heap.size, 1, none⟩ = some (.string x.2) := HY.out.cell 1
  clear hW3 hW x0 x1 f0 f1 HX c0
  go_region_held3 (fun w' => w'.cell? ⟨w1.heap.size, 0, none⟩ = some (.int .i64 x.1) ∧ w'.cell? ⟨w1.heap.size, 1, none⟩ = some (.string x.2)) (first | exact ⟨y0, y1⟩ | fail) (first | fail)
  all_goals (
    go_wp2
    go_ret3
    exact ⟨rfl, HB.out.trans ((HBY.out.drew).mono HB.out.size)⟩)
end Go.Proofs.Ytpmgabeefppajaa.Cp
/- What an answer makes of a copy: the maths. -/
namespace Go.Proofs.Ytpmgabeefppajaa.Cp
open Go.RowKit
set_option linter.unusedVariables false
abbrev LK := List (ByteArray × (Int × ByteArray))
def tk1 (L : LK) (t : It) : LK := if t.x = true then delL t.u L else insL t.u (t.v, t.c) L
def takes (L : LK) (xs : List It) : LK := xs.foldl tk1 L
theorem tk1_srt {L : LK} (h : Srt L) (t : It) : Srt (tk1 L t) := by
  unfold tk1
  split
  · exact h.del _
  · exact h.ins
theorem takes_srt : ∀ {xs : List It} {L : LK}, Srt L → Srt (takes L xs)
  | [], L, h => h
  | t :: xs, L, h => takes_srt (xs := xs) (tk1_srt h t)
theorem tk1_len {L : LK} (h : Srt L) (t : It) : (tk1 L t).length ≤ L.length + 1 := by
  unfold tk1
  split
  · have := delL_len (k := t.u) h; omega
  · rw [insL_len h]; split <;> omega
theorem takes_snoc (L : LK) (xs : List It) (q : Nat) (t : It) (h : xs[q]? = some t) : takes L (xs.take (q + 1)) = tk1 (takes L (xs.take q)) t := by
  unfold takes
  rw [List.take_add_one, h]
  simp
theorem takes_len : ∀ {xs : List It} {L : LK}, Srt L → (takes L xs).length ≤ L.length + xs.length
  | [], L, h => Nat.le_refl _
  | t :: xs, L, h => by
    have h1 := takes_len (xs := xs) (tk1_srt h t)
    have h2 := tk1_len h t
    have e : takes L (t :: xs) = takes (tk1 L t) xs := rfl
    rw [e]
    simp only [List.length_cons]
    omega
/-- An item may come, when these have. -/
def okI (a : Int) (seen : List ByteArray) (t : It) : Bool := !(seen.any fun u => decide (u = t.u)) && decide (1 ≤ t.v) && (decide (a = 0) || decide (a < t.v))
def okAt (a : Int) (xs : List It) (q : Nat) : Bool :=
  match xs[q]? with
  | none => true
  | some t => okI a ((xs.take q).map It.u) t
def okTo (a : Int) (xs : List It) (q : Nat) : Bool := (List.range q).all (okAt a xs)
def folB (a tok : Int) (xs : List It) : Bool := decide (a ≤ tok) && okTo a xs xs.length
theorem okTo_zero (a : Int) (xs : List It) : okTo a xs 0 = true := rfl
theorem okTo_snoc (a : Int) (xs : List It) (q : Nat) : okTo a xs (q + 1) = (okTo a xs q && okAt a xs q) := by
  unfold okTo
  rw [List.range_succ, List.all_append]
  simp
theorem okAt_some {a : Int} {xs : List It} {q : Nat} {t : It} (h : xs[q]? = some t) : okAt a xs q = okI a ((xs.take q).map It.u) t := by unfold okAt; rw [h]
theorem okTo_miss {a : Int} {xs : List It} {q : Nat} (hq : q < xs.length) (h : okAt a xs q = false) : okTo a xs xs.length = false := by
  unfold okTo
  rw [List.all_eq_false]
  exact ⟨q, List.mem_range.2 hq, by rw [h]; decide⟩
theorem okTo_iff {a : Int} {xs : List It} : okTo a xs xs.length = true ↔ (xs.map It.u).Nodup ∧ ∀ t ∈ xs, 1 ≤ t.v ∧ (a = 0 ∨ a < t.v) := by
  unfold okTo
  rw [List.all_eq_true]
  constructor
  · intro h
    have key : ∀ q (hq : q < xs.length), okI a ((xs.take q).map It.u) xs[q] = true := fun q hq => by
      rw [← okAt_some (List.getElem?_eq_getElem hq)]
      exact h q (List.mem_range.2 hq)
    refine ⟨?_, fun t ht => ?_⟩
    · unfold List.Nodup
      rw [List.pairwise_iff_getElem]
      intro i j hi hj hij e
      have hi' : i < xs.length := by simpa using hi
      have hj' : j < xs.length := by simpa using hj
      have := key j hj'
      simp only [okI, Bool.and_eq_true, Bool.not_eq_true', List.any_eq_false, decide_eq_true_eq] at this
      refine this.1.1 ((xs.map It.u)[i]) ?_ (by simpa using e)
      rw [List.mem_iff_getElem]
      exact ⟨i, by simp; omega, by simp⟩
    · obtain ⟨q, hq, rfl⟩ := List.mem_iff_getElem.1 ht
      have := key q hq
      simp only [okI, Bool.and_eq_true, decide_eq_true_eq, Bool.or_eq_true] at this
      exact ⟨this.1.2, this.2⟩
  · rintro ⟨h1, h2⟩ q hq
    have hq' := List.mem_range.1 hq
    rw [okAt_some (List.getElem?_eq_getElem hq')]
    have h3 := h2 xs[q] (List.getElem_mem _)
    simp only [okI, Bool.and_eq_true, Bool.not_eq_true', List.any_eq_false, decide_eq_true_eq, Bool.or_eq_true]
    refine ⟨⟨fun u hm e0 => ?_, h3.1⟩, h3.2⟩
    subst e0
    obtain ⟨t, ht, e⟩ := List.mem_map.1 hm
    obtain ⟨i, hi, rfl⟩ := List.mem_iff_getElem.1 ht
    simp only [List.length_take] at hi
    rw [List.getElem_take] at e
    unfold List.Nodup at h1
    rw [List.pairwise_iff_getElem] at h1
    exact h1 i q (by simp; omega) (by simpa using hq') (by omega) (by simpa using e)
structure Rs where
  L : LK
  tk : Int
  mo : Bool
def foldE (R : Rs) (asked k e tok : Int) (xs : List It) : Int :=
  if k ≠ 8 ∨ asked ≠ R.tk then 10 else if e = 8 then 0 else if e ≠ 0 then 10 else if folB asked tok xs = true then 0 else 1
def foldR (R : Rs) (asked k e tok : Int) (more : Bool) (xs : List It) : Rs :=
  if k ≠ 8 ∨ asked ≠ R.tk then R else if e = 8 then ⟨[], 0, false⟩ else if e ≠ 0 then R else if folB asked tok xs = true then ⟨takes (if asked = 0 then [] else R.L) xs, tok, more⟩ else R
def itK (p : ByteArray × (Int × ByteArray)) : It := ⟨p.1, p.2.1, false, p.2.2⟩
def itsK (L : LK) : List It := L.map itK
theorem getL_tk1 {L : LK} (h : Srt L) (t : It) (j : ByteArray) : getL j (tk1 L t) = if j = t.u then (if t.x = true then none else some (t.v, t.c)) else getL j L := by
  unfold tk1
  by_cases hx : t.x = true
  · rw [if_pos hx, getL_del, if_pos hx]
  · rw [if_neg hx, getL_ins h, if_neg hx]
end Go.Proofs.Ytpmgabeefppajaa.Cp
/- Maps with keys that are texts, that hold whatever values: what stands where, how many. -/
namespace Go.Proofs.Ytpmgabeefppajaa.Cp
open Go.RowKit Go.Maps
open Go.WideElems (rg Fit)
open Go.ChangeMaps Go.MapKept
set_option linter.unusedVariables false
set_option maxRecDepth 20000
abbrev VD := DataW Value
/-- A value reads as itself. -/
def RV (v : Value) : Option (VD × List MemPlace) := some (.held v, [])
theorem KS : Keyed Try.prog 9 := string_keyed Try.underlying9
def wf (x : ByteArray) : Prop := x.size ≤ maxLen
def ks (x : ByteArray) : Lit := .string x.data.toList
theorem ks_inj {x y : ByteArray} (h : ks x = ks y) : x = y := by
  injection h with h
  exact ByteArray.ext (Array.toList_inj.1 h)
theorem ks_ne {x y : ByteArray} (h : y ≠ x) : ks y ≠ ks x := fun e => h (ks_inj e)
theorem keyS {x : ByteArray} (h : wf x) : keyOf Try.prog 9 (.string x) = some (ks x) := Go.WideMaps.keyOf_string_mk Try.underlying9 h
/-- What lies at x. -/
def vl (D : VD) (x : ByteArray) : Option Value :=
  match D.atKey (ks x) .nil with
  | .held v => some v
  | _ => none
theorem key_lit (x : ByteArray) : WideAt.IsKeyLit (ks x) := by simp [WideAt.IsKeyLit, ks]
theorem vl_put {D : VD} (h : IsMap D) (x : ByteArray) (v : Value) : vl (D.put (ks x) (.held v)) x = some v := by unfold vl; rw [atKey_put_same h (key_lit x)]
theorem vl_put_ne {D : VD} {x y : ByteArray} (hne : y ≠ x) (d : VD) : vl (D.put (ks x) d) y = vl D y := by unfold vl; rw [atKey_put_other (ks_ne hne)]
/-- A map's datum: no key twice; what is there is held. -/
structure Vd (D : VD) : Prop where
  tidy : Tidy D
  has : ∀ x : ByteArray, Maps.has D (ks x) = (vl D x).isSome
theorem Vd.empty : Vd (.map []) := ⟨tidy_empty, fun x => rfl⟩
theorem Vd.put {D : VD} (h : Vd D) (x : ByteArray) (v : Value) : Vd (D.put (ks x) (.held v)) :=
  ⟨h.tidy.put (key_lit x) _, fun y => by
    by_cases e : y = x
    · subst e
      rw [has_put_same h.tidy.isMap (key_lit y), vl_put h.tidy.isMap]; rfl
    · rw [has_put_other (ks_ne e), vl_put_ne e, h.has]⟩
theorem Vd.size_put {D : VD} (h : Vd D) (x : ByteArray) (v : Value) : Maps.size (D.put (ks x) (.held v)) = if (vl D x).isSome then Maps.size D else Maps.size D + 1 := by
  rw [Maps.size_put h.tidy, h.has]
def Vm (w : World) (b : Nat) (D : VD) : Prop := ∃ es clock, w.heap[b]? = some (.map es clock) ∧ Fit Try.prog 9 RV es clock ∧ D = .map ((es.toList.map (rg Try.prog 9 RV)).foldr DataW.insert []) ∧ Vd D
theorem Vm.lt {w : World} {b : Nat} {D : VD} (h : Vm w b D) : b < w.heap.size := by
  obtain ⟨es, clock, hb, _⟩ := h
  exact (Array.getElem?_eq_some_iff.1 hb).1
theorem Vm.vd {w : World} {b : Nat} {D : VD} (h : Vm w b D) : Vd D := by
  obtain ⟨es, clock, hb, _, _, h⟩ := h
  exact h
theorem Vm.off {w w' : World} {b : Nat} {D : VD} (h : Vm w b D) (hb : w'.heap[b]? = w.heap[b]?) : Vm w' b D := by
  obtain ⟨es, clock, h1, h2, h3, h4⟩ := h
  exact ⟨es, clock, hb.trans h1, h2, h3, h4⟩
theorem Vm.made (w : World) : Vm (w.alloc (.map #[] 0)) w.heap.size (.map []) :=
  ⟨#[], 0, (MapKept.heap_alloc w _).1, ⟨by simp, stamped_empty 0, by simp⟩, rfl, Vd.empty⟩
theorem Vm.size_eq {D : VD} {es : Array MapEntry} (h : D = .map ((es.toList.map (rg Try.prog 9 RV)).foldr DataW.insert [])) : Maps.size D = es.size := by
  subst h
  show List.length _ = _
  rw [length_sorted]
  simp
theorem Vm.look {w : World} {b : Nat} {D : VD} {t e : TypeId} (h : Vm w b D) (ht : Try.prog.underlying t = some (.map 9 e)) {z : Value} (hz : (zeroValue e).run Try.prog w = .ok z w) {x : ByteArray} (hx : wf x) :
    (Instr.lookup t (.map (some b)) (.string x) true).run Try.prog w = .ok (.tuple #[(vl D x).getD z, .bool (vl D x).isSome]) w ∧ (Instr.lookup t (.map (some b)) (.string x) false).run Try.prog w = .ok ((vl D x).getD z) w := by
  obtain ⟨es, clock, hb, F, rfl, _⟩ := h
  rcases fit_look true KS ht hz hb F (keyS hx) with ⟨h1, h0, h2⟩ | ⟨e0, y, m1, m2, h1, h2, h3, _⟩
  · have ha : vl (DataW.map ((es.toList.map (rg Try.prog 9 RV)).foldr DataW.insert [])) x = none := by unfold vl; rw [h2]
    rw [ha]
    refine ⟨h1, ?_⟩
    rcases fit_look false KS ht hz hb F (keyS hx) with ⟨g1, _, _⟩ | ⟨e1, y1, n1, n2, _⟩
    · exact g1
    · exact absurd n2 (h0 e1 n1)
  · cases h2
    have ha : vl (DataW.map ((es.toList.map (rg Try.prog 9 RV)).foldr DataW.insert [])) x = some e0.val := by unfold vl; rw [h3]
    rw [ha]
    refine ⟨h1, ?_⟩
    rcases fit_look false KS ht hz hb F (keyS hx) with ⟨g1, g2, _⟩ | ⟨e1, y1, n1, n2, g1, g2, g3, _⟩
    · exact absurd m2 (g2 e0 m1)
    · cases g2
      have e : (DataW.held e1.val : VD) = .held e0.val := (g3 .nil).symm.trans (h3 .nil)
      injection e with e
      rw [← e]
      exact g1
theorem grown_set {w : World} {b : Nat} {es : Array MapEntry} {clock : Nat} {o2 : Obj} (hb : w.heap[b]? = some (.map es clock)) : w.grownBy (setBlock w b o2) (some b) :=
  ⟨rfl, rfl, rfl, by simp [setBlock], fun j hj hne => heap_setBlock_other hb _ (fun e => hne (by rw [e]))⟩
theorem Vm.upd {w : World} {b : Nat} {D : VD} {t e : TypeId} (h : Vm w b D) (hs : Maps.size D ≤ 1000000) (ht : Try.prog.underlying t = some (.map 9 e)) {x : ByteArray} (hx : wf x) (v : Value) :
    ∃ w2, (Instr.mapUpdate t (.map (some b)) (.string x) v).run Try.prog w = .ok () w2 ∧ Vm w2 b (D.put (ks x) (.held v)) ∧ w.grownBy w2 (some b) ∧ w2.heap.size = w.heap.size := by
  obtain ⟨es, clock, hb, F, hD, hT⟩ := h
  have hsz := Vm.size_eq hD
  obtain ⟨es', clock', hrun, F', hput, _⟩ := fit_store (R' := RV) KS ht hb F (by unfold maxLen; omega) (fun _ _ _ _ h => h) (keyS hx) (rfl : RV v = some (.held v, []))
  refine ⟨_, hrun, ⟨es', clock', heap_setBlock_same hb _, F', ?_, hT.put x v⟩, grown_set hb, by simp [setBlock]⟩
  rw [hD]
  show DataW.map _ = DataW.map _
  exact congrArg DataW.map hput.symm
end Go.Proofs.Ytpmgabeefppajaa.Cp
namespace Go.Proofs.Ytpmgabeefppajaa.Cp
open Go.RowKit Go.Maps
open Go.Lib
set_option linter.unusedVariables false
set_option linter.unusedSimpArgs false
set_option maxRecDepth 100000
theorem zero105 (w : World) : (zeroValue 105).run Try.prog w = .ok (.agg #[]) w := by kernel_rfl
theorem run_mm (n : Int) (w : World) : (Instr.makeMap 104 (some (.int .i64 n))).run Try.prog w = .ok (.map (some w.heap.size)) (w.alloc (.map #[] 0)) := by
  simp [Instr.makeMap, run_underlying Try.underlying104, asInt, asIntOf, Result.andThen]
/-- The texts that have come. -/
structure Seen (D : VD) (us : List ByteArray) : Prop where
  at_ : ∀ s, vl D s = if us.any (fun u => decide (u = s)) = true then some (.agg #[]) else none
  size : Maps.size D ≤ us.length
theorem Seen.empty : Seen (.map []) [] := ⟨fun s => rfl, Nat.le_refl _⟩
theorem Seen.put {D : VD} {us : List ByteArray} (h : Seen D us) (hd : Vd D) (x : ByteArray) : Seen (D.put (ks x) (.held (.agg #[]))) (us ++ [x]) :=
  ⟨fun s => by
    by_cases e : s = x
    · subst e
      rw [vl_put hd.tidy.isMap]
      simp
    · rw [vl_put_ne e, h.at_, List.any_append]
      have e2 : decide (x = s) = false := decide_eq_false (fun h => e h.symm)
      simp only [List.any_cons, List.any_nil, e2, Bool.or_false], by
    have := h.size
    rw [hd.size_put]
    simp only [List.length_append, List.length_singleton]
    split <;> omega⟩
set_option maxHeartbeats 8000000 in
theorem fol_any {w : World} {A : Option Addr} {len cap b off : Nat} {xs : List It} (h : Its w A len cap b off xs) (hn : len ≤ 100000) (hu : ∀ t ∈ xs, t.u.size ≤ 1000000) (asked k e tok ver : Int) (card : ByteArray) (idx : Int) (more : Bool) : Calls Try.prog 29 #[.int .i64 asked, .agg #[.int .i64 k, .int .i64 e, .int .i64 tok, .int .i64 ver, .string card, .int .i64 idx, .bool more, .slice A len cap]] w fun r w' => r = .returned (.bool (folB asked tok xs)) ∧ Below w.heap.size w w' := by
  have HX0 := Lib.hid ((Bxs.start w).new 35 #[.int .i64 k, .int .i64 e, .int .i64 tok, .int .i64 ver, .string card, .int .i64 idx, .bool more, .slice A len cap])
  have HI := Lib.hid h
  have hlen := h.hlen
  have HU := Lib.hid hu
  have hlc := h.le
  have hnI : (len : Int) ≤ 100000 := by omega
  obtain ⟨r, hr⟩ : ∃ r, folB asked tok xs = r := ⟨_, rfl⟩
  have HR := Lib.hid hr.symm
  rw [hr]
  clear hr h hu
  by_cases n0 : tok < asked
  · have H0 := Lib.hid (show r = false by rw [HR.out]; unfold folB; rw [decide_eq_false (by omega)]; rfl)
    go_enter Try.func29, Try.ntmps29
    go_wp2
    go_ret
    exact ⟨by rw [H0.out]; rfl, HX0.out.bel⟩
  have HR2 := Lib.hid (show r = okTo asked xs xs.length by rw [HR.out]; unfold folB; rw [decide_eq_true (show asked ≤ tok by omega)]; rfl)
  obtain ⟨X, hX⟩ : ∃ X, w.heap.size = X := ⟨_, rfl⟩
  obtain ⟨W, hW⟩ : ∃ W, w.alloc (.cells #[.int .i64 k, .int .i64 e, .int .i64 tok, .int .i64 ver, .string card, .int .i64 idx, .bool more, .slice A len cap] 35) = W := ⟨_, rfl⟩
  rw [hW, hX] at HX0
  have x2 := (HX0.out.get 0 rfl).cell 2
  have x7 := (HX0.out.get 0 rfl).cell 7
  go_enter Try.func29, Try.ntmps29
  have hmm := run_mm (len : Int)
  have x7b := ((HX0.out.get 0 rfl).alloc (.map #[] 0)).cell 7
  go_wp2
  clear hmm x7b x7 x2 hX
  have HWge := Lib.hid HX0.out.bel.size
  go_loopw [21] (fun i wr => ∃ (q : Nat) (D : VD), q ≤ len ∧ i = .int .i64 (q : Int) ∧ okTo asked xs q = true ∧ Seen D ((xs.take q).map It.u) ∧ Vm wr W.heap.size D ∧ Below w.heap.size w wr) (fun i _ => len - (intOf i).toNat)
  case atStart => exact ⟨0, _, Nat.zero_le _, rfl, okTo_zero _ _, Seen.empty, Vm.made W, HX0.out.bel.alloc HX0.out.bel.size _⟩
  case round =>
    obtain ⟨q, D, hq, rfl, hok, hse, hvm, hB⟩ := hrel
    have HOK := Lib.hid hok
    have HSE := Lib.hid hse
    have HVM := Lib.hid hvm
    have HB := Lib.hid hB
    clear hok hse hvm hB
    by_cases hql : q < len
    · obtain ⟨t, ht⟩ : ∃ t, xs[q]? = some t := ⟨xs[q]'(by rw [HI.out.hlen]; exact hql), List.getElem?_eq_getElem _⟩
      obtain ⟨rfl, hbl⟩ := HI.out.addr (by omega)
      obtain ⟨c0, c1, c2, c3⟩ := (HI.out.below HB.out (fun _ => hbl)).cell q t ht
      have HAT := Lib.hid (okAt_some (a := asked) ht)
      have HTU := Lib.hid (HU.out t (List.mem_of_getElem? ht))
      have HTK := Lib.hid (show (xs.take (q + 1)).map It.u = (xs.take q).map It.u ++ [t.u] by rw [List.take_add_one, ht]; simp)
      have hqI : (q : Int) < (len : Int) := by omega
      obtain ⟨tu, tv, tx, tc⟩ := t
      simp only at c0 c1 c2 c3
      clear ht
      obtain ⟨n, hn2⟩ : ∃ n, wr.heap.size = n := ⟨_, rfl⟩
      obtain ⟨W1, hW1⟩ : ∃ W1, wr.alloc (.cells #[.string { data := #[] }, .int .i64 0, .bool false, .string { data := #[] }] 41) = W1 := ⟨_, rfl⟩
      have HB1 := Lib.hid (show Below wr.heap.size wr W1 from hW1 ▸ (Below.refl _ wr).alloc (Nat.le_refl _) _)
      have HX1 := Lib.hid (show Blk W1 n 41 #[.string .empty, .int .i64 0, .bool false, .string .empty] from hn2 ▸ hW1 ▸ Blk.new wr 41 _)
      have y0 := HX1.out.cell 0
      have y1 := HX1.out.cell 1
      have y2 := HX1.out.cell 2
      have y3 := HX1.out.cell 3
      have f0 := HX1.out.frozen 0
      have f1 := HX1.out.frozen 1
      have f2 := HX1.out.frozen 2
      have f3 := HX1.out.frozen 3
      go_wp2_with fail
      obtain ⟨W2, hW2⟩ : ∃ W2, (((W1.setCell ⟨n, 0, none⟩ (.string tu)).setCell ⟨n, 1, none⟩ (.int .i64 tv)).setCell ⟨n, 2, none⟩ (.bool tx)).setCell ⟨n, 3, none⟩ (.string tc) = W2 := ⟨_, rfl⟩
      have HX2 := Lib.hid (show Blk W2 n 41 #[.string tu, .int .i64 tv, .bool tx, .string tc] from hW2 ▸ ((((HX1.out.set_ 0 _).set_ 1 _).set_ 2 _).set_ 3 _))
      have HB2 := Lib.hid (show Below n wr W2 from hW2 ▸ ((((((HB1.out.mono (Nat.le_of_eq hn2.symm)).setCell (p := ⟨n, 0, none⟩) (Nat.le_refl _) _).setCell (p := ⟨n, 1, none⟩) (Nat.le_refl _) _).setCell (p := ⟨n, 2, none⟩) (Nat.le_refl _) _).setCell (p := ⟨n, 3, none⟩) (Nat.le_refl _) _)))
      have HM2 := Lib.hid (HVM.out.off (HB2.out.block _ (by have := HVM.out.lt; omega)))
      rw [hW2]
      clear hW2 y0 y1 y2 y3 f0 f1 f2 f3 HX1 HB1 hW1
      have z0 := (HX2.out.alloc (.cells #[] 105)).cell 0
      have z1 := (HX2.out.alloc (.cells #[] 105)).cell 1
      have HBa := Lib.hid (show Below w.heap.size w (W2.alloc (.cells #[] 105)) from (HB.out.trans (HB2.out.mono (by rw [← hn2]; exact HB.out.size))).alloc (by have := HB2.out.size; have := HB.out.size; omega) _)
      obtain ⟨W4, hrun, hv4, hg4, _⟩ := (HM2.out.off (w' := W2.alloc (.cells #[] 105)) (Below.heap_alloc _ _ _ HM2.out.lt)).upd (by have := HSE.out.size; simp only [List.length_map, List.length_take] at this; omega) Try.underlying104 (x := tu) (by have := HTU.out; unfold wf maxLen; omega) (.agg #[])
      have HV4 := Lib.hid hv4
      have HB4 := Lib.hid (show Below w.heap.size (W2.alloc (.cells #[] 105)) W4 from (Below.refl _ _).grown hg4 (by have := HBa.out.size; exact this) (fun j e => by cases e; exact HWge.out))
      clear hv4 hg4
      have hlk := (HM2.out.look Try.underlying104 (zero105 W2) (x := tu) (by have := HTU.out; unfold wf maxLen; omega)).1
      rw [HSE.out.at_] at hlk
      by_cases hs : (((xs.take q).map It.u).any fun u => decide (u = tu)) = true
      · rw [if_pos hs] at hlk
        simp only [Option.getD_some, Option.isSome_some] at hlk
        have H0 := Lib.hid (show r = false by rw [HR2.out]; refine okTo_miss (by rw [hlen]; exact hql) ?_; rw [HAT.out]; unfold okI; rw [hs]; rfl)
        clear hs
        rw [hlk]
        simp only [Result.andThen]
        rw [Oper.upon_value]
        go_wp2
        go_ret
        exact ⟨by rw [H0.out]; rfl, HBa.out⟩
      · rw [if_neg hs] at hlk
        simp only [Option.getD_none, Option.isSome_none] at hlk
        have HS0 := Lib.hid (Bool.eq_false_iff.2 hs)
        clear hs
        by_cases hv1 : tv < 1
        · have H0 := Lib.hid (show r = false by rw [HR2.out]; refine okTo_miss (by rw [hlen]; exact hql) ?_; rw [HAT.out]; unfold okI; rw [decide_eq_false (show ¬ 1 ≤ tv by omega)]; simp)
          rw [hlk]
          simp only [Result.andThen]
          rw [Oper.upon_value]
          go_wp2
          go_ret
          exact ⟨by rw [H0.out]; rfl, HBa.out⟩
        by_cases ha : asked = 0
        · have ha2 : (asked != 0) = false := by rw [ha]; rfl
          have HN := Lib.hid (show okTo asked xs (q + 1) = true by rw [okTo_snoc, HOK.out, HAT.out]; unfold okI; rw [HS0.out, decide_eq_true (show 1 ≤ tv by omega), decide_eq_true ha]; rfl)
          clear ha
          rw [hlk]
          simp only [Result.andThen]
          rw [Oper.upon_value]
          go_wp2
          go_roundw
          case rel => exact ⟨q + 1, _, by omega, by go_num, HN.out, HTK.out ▸ HSE.out.put HM2.out.vd tu, HV4.out, HBa.out.trans HB4.out⟩
          case measure => simp [intOf]; omega
        · have ha2 : (asked != 0) = true := by simpa using ha
          by_cases hv2 : tv ≤ asked
          · have H0 := Lib.hid (show r = false by rw [HR2.out]; refine okTo_miss (by rw [hlen]; exact hql) ?_; rw [HAT.out]; unfold okI; rw [decide_eq_false ha, decide_eq_false (show ¬ asked < tv by omega)]; simp)
            clear ha
            rw [hlk]
            simp only [Result.andThen]
            rw [Oper.upon_value]
            go_wp2
            go_ret
            exact ⟨by rw [H0.out]; rfl, HBa.out⟩
          · have HN := Lib.hid (show okTo asked xs (q + 1) = true by rw [okTo_snoc, HOK.out, HAT.out]; unfold okI; rw [HS0.out, decide_eq_true (show 1 ≤ tv by omega), decide_eq_true (show asked < tv by omega)]; simp)
            clear ha
            rw [hlk]
            simp only [Result.andThen]
            rw [Oper.upon_value]
            go_wp2
            go_roundw
            case rel => exact ⟨q + 1, _, by omega, by go_num, HN.out, HTK.out ▸ HSE.out.put HM2.out.vd tu, HV4.out, HBa.out.trans HB4.out⟩
            case measure => simp [intOf]; omega
    · obtain rfl : q = len := by omega
      have H0 := Lib.hid (show r = true by rw [HR2.out, hlen, HOK.out])
      go_wp2
      go_ret
      exact ⟨by rw [H0.out]; rfl, HB.out⟩
end Go.Proofs.Ytpmgabeefppajaa.Cp
