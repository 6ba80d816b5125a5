/- Trees in memory (values: Int): what stands where; size, join. -/
import Derived.Test.YthcjbljkokflgaaFag
import Derived.Test.YthcjbljkokflgaaFaa
import Derived.RangeFuncNested
import Derived.RangeFuncBox
import Derived.RangeFuncCalls
import Derived.Shelf.RegionOpen
import Derived.OwnWalkIn
import Derived.TacticsInMore
import Derived.RangeFuncBound
import Derived.RangeFuncLeaves
import Derived.Shelf.Abstract
import Derived.Stop.RegionWithIn
import Derived.LoopNIn
import Derived.LoopIn
import Derived.Test.YthcjbljkokflgaaFab
import Derived.Test.YthcjbljkokflgaaProg
import Derived.WalkKit
import Derived.Deep.Upon
import Derived.Lib.Hide
import Derived.KernelRfl
import Derived.OwnWalk
import Derived.BigQuiet
import Derived.RegionTactic
import Derived.Deep.QuietTactic
import Derived.Deep.RegionWith
import Derived.Laws.Rows
import Derived.Deep.RegionHeld3
import Derived.Deep.DrawnRows
import Derived.Laws.Cover1
set_option linter.unnecessarySimpa false
/- A collection: what it is; New, Len, Bytes, Latest, Horizon, Get. -/
namespace Go.Proofs.Ythcjbljkokflgaa
open Go.RowKit
open Go.Lib
set_option linter.unusedVariables false
set_option linter.unusedSimpArgs false
set_option maxRecDepth 100000
abbrev LK := List (ByteArray × (Int × ByteArray))
structure Cs where
  L : LK
  F : Nat
  ring : List Chg
  most : Int
  lmost : Int
  latest : Int
  horizon : Int
  bytes : Int
/-- A collection's own kinds. -/
def CT (t : TypeId) : Prop := t = 74 ∨ t = 105 ∨ t = 108 ∨ t = 72
def MT (t : TypeId) : Prop := t = 105
def GT (t : TypeId) : Prop := t = 74
theorem ct_pt (t : TypeId) (h : PT t) : CT t := by rcases h with h | h; exact .inr (.inr (.inl h)); exact .inr (.inr (.inr h))
theorem ct_mt (t : TypeId) (h : MT t) : CT t := .inr (.inl h)
theorem ct_gt (t : TypeId) (h : GT t) : CT t := .inl h
theorem kc_ko {B : Nat} {w w' : World} {m : Nat} {L : LK} (h : OC.Ko w w' m) (hO : OC.Om w m L) (hB : B ≤ m) (hs : B ≤ w.heap.size) : Kc MT B w w' :=
  ⟨h.os, h.tape, h.output, h.size, fun j hj => h.block j (by omega) (by omega), fun j t cs hb h1 => (h.block j hb.lt (fun e => by
    obtain ⟨p, hp⟩ := hO.box
    subst e
    unfold Blk at hb hp
    rw [hb] at hp
    cases hp
    exact h1 rfl)).trans hb⟩
theorem om_keep {T : TypeId → Prop} {B : Nat} {w w' : World} {m : Nat} {L : LK} (h : OC.Om w m L) (k : Kc T B w w') (h1 : ¬ T 105) (h2 : ¬ T 110) : OC.Om w' m L := by
  obtain ⟨p, hp⟩ := h.box
  exact h.keep ((k.far m _ _ hp h1).trans (Eq.symm hp)) (fun b cs hb => k.far b _ _ hb h2)
/-- A collection: its box, its map, its ring. -/
def Cl (w : World) (B g : Nat) (c : Cs) : Prop := ∃ m R, Blk w g 74 #[.pointer (some ⟨m, 0, none⟩), .pointer (some ⟨R, 0, none⟩), .int .i64 c.most, .int .i64 c.bytes, .int .i64 c.latest, .int .i64 c.horizon] ∧ OC.Om w m c.L ∧ Rg w B R c.lmost c.F c.ring ∧ B ≤ g ∧ B ≤ m
theorem Cl.on {B g : Nat} {w w' : World} {c : Cs} (h : Cl w B g c) (hb : Below w.heap.size w w') : Cl w' B g c := by
  obtain ⟨m, R, e1, e2, e3, e4, e5⟩ := h
  exact ⟨m, R, e1.below hb e1.lt, e2.below hb, e3.below hb, e4, e5⟩
def newC (birth cards log : Int) : Cs := ⟨[], 0, [], max cards 1, max log 1, birth, birth, 0⟩
theorem cl_new (birth cards log : Int) (w : World) (B : Nat) (hB : B ≤ w.heap.size) : Calls Try.prog 14 #[.int .i64 birth, .int .i64 cards, .int .i64 log] w fun e w' => ∃ g, e = .returned (.pointer (some ⟨g, 0, none⟩)) ∧ Cl w' B g (newC birth cards log) ∧ Below w.heap.size w w' ∧ w.heap.size ≤ g := by
  have HN := Lib.hid (OC.om_new w)
  have HR := Lib.hid (fun W (hb : B ≤ W.heap.size) => rg_new log W B hb)
  obtain ⟨mx, hmx⟩ : ∃ x, max cards 1 = x := ⟨_, rfl⟩
  have HMX := Lib.hid hmx
  clear hmx
  go_enter Try.func14, Try.ntmps14
  go_wp2_with fail
  refine HN.out.mono ?_
  rintro _ w1 ⟨m, rfl, h1, h2, h3⟩
  have H1 := Lib.hid h1
  have H2 := Lib.hid h2
  have H3 := Lib.hid h3
  have hB1 : B ≤ w1.heap.size := by have := h2.size; omega
  clear h1 h2 h3 HN
  go_wp2_with fail
  refine (HR.out _ hB1).mono ?_
  rintro _ w2 ⟨rfl, h1, h2⟩
  have H4 := Lib.hid h1
  have H5 := Lib.hid h2
  clear h1 h2
  go_wp2
  all_goals (
    go_ret
    have hb : ∀ o, Below w2.heap.size w2 (w2.alloc o) := fun o => (Below.refl _ w2).alloc (Nat.le_refl _) _
    have h12 := H5.out.size
    have h01 := H2.out.size
    refine ⟨w2.heap.size, rfl, ⟨m, w1.heap.size, ?_, (H1.out.below H5.out).below (hb _), H4.out.below (hb _), by omega, by have := H3.out; omega⟩, (H2.out.trans (H5.out.mono h01)).trans ((hb _).mono (by omega)), by omega⟩
    show Blk _ _ 74 #[_, _, .int .i64 (max cards 1), _, _, _]
    rw [HMX.out]
    first
      | exact Blk.new _ _ _
      | (rw [show mx = 1 by have := HMX.out; omega]; exact Blk.new _ _ _)
      | (rw [show mx = cards by have := HMX.out; omega]; exact Blk.new _ _ _))
theorem cl_latest {w : World} {B g : Nat} {c : Cs} (h : Cl w B g c) : Calls Try.prog 35 #[.pointer (some ⟨g, 0, none⟩)] w fun e w' => e = .returned (.int .i64 c.latest) ∧ w' = w := by
  obtain ⟨m, R, e1, e2, e3, e4, e5⟩ := h
  have c4 := e1.cell 4
  simp only [List.getElem?_toArray, List.getElem?_cons_zero, List.getElem?_cons_succ] at c4
  clear e1 e2 e3
  go_enter Try.func35, Try.ntmps35
  go_wp2
  go_ret
  exact ⟨rfl, rfl⟩
theorem cl_horizon {w : World} {B g : Nat} {c : Cs} (h : Cl w B g c) : Calls Try.prog 37 #[.pointer (some ⟨g, 0, none⟩)] w fun e w' => e = .returned (.int .i64 c.horizon) ∧ w' = w := by
  obtain ⟨m, R, e1, e2, e3, e4, e5⟩ := h
  have c5 := e1.cell 5
  simp only [List.getElem?_toArray, List.getElem?_cons_zero, List.getElem?_cons_succ] at c5
  clear e1 e2 e3
  go_enter Try.func37, Try.ntmps37
  go_wp2
  go_ret
  exact ⟨rfl, rfl⟩
theorem cl_len {w : World} {B g : Nat} {c : Cs} (h : Cl w B g c) : Calls Try.prog 36 #[.pointer (some ⟨g, 0, none⟩)] w fun e w' => e = .returned (.int .i64 (c.L.length : Int)) ∧ w' = w := by
  obtain ⟨m, R, e1, e2, e3, e4, e5⟩ := h
  have c0 := e1.cell 0
  simp only [List.getElem?_toArray, List.getElem?_cons_zero, List.getElem?_cons_succ] at c0
  have HL := Lib.hid (OC.om_len e2)
  clear e1 e2 e3
  go_enter Try.func36, Try.ntmps36
  go_wp2_with fail
  refine HL.out.mono ?_
  rintro _ w1 ⟨rfl, hw⟩
  replace hw := hw.symm
  subst hw
  go_wp2
  go_ret
  exact ⟨rfl, rfl⟩
end Go.Proofs.Ythcjbljkokflgaa
/- The collection: item, Live. -/
namespace Go.Proofs.Ythcjbljkokflgaa
open Go.RowKit
open Go.Lib
open Go.Shelf
set_option linter.unusedVariables false
set_option linter.unusedSimpArgs false
set_option maxRecDepth 100000
attribute [local go_sem] Oper.semAt_some
theorem infoIt : (Try.prog.info? 62).map (fun i => (i.zero, i.size, i.bytes)) = some (some (.agg #[.string .empty, .int .i64 0, .bool false, .string .empty]), 4, 48) := by kernel_rfl
def itK (q : ByteArray × (Int × ByteArray)) : It := ⟨q.1, q.2.1, false, q.2.2⟩
def itsK (L : LK) : List It := L.map itK
theorem itsK_len (L : LK) : (itsK L).length = L.length := by unfold itsK; rw [List.length_map]
theorem keepsFrom_below {B : Nat} {W W' : World} (h : Below W.heap.size W W') : KeepsFrom B W W' := ⟨h.size, fun k o _ hk _ => (h.block k (Array.getElem?_eq_some_iff.1 hk).1).trans hk⟩
theorem boxed_below {W W' : World} {b : Nat} {t : TypeId} {v : Value} (hv : Boxed W b t v) (h : Below W.heap.size W W') : Boxed W' b t v := (h.block b hv.lt).trans hv
theorem own_below {w1 w2 : World} {base : Nat} {e : TypeId} {k n : Nat} {v : Value} {xs : List Value} (h : w1.ownsRow base e k v n xs) (ht : Below w1.heap.size w1 w2) : w2.ownsRow base e k v n xs := by
  obtain ⟨h0, h3 | ⟨b, cap, cur, e1, e2, e3, e4⟩⟩ := h
  · exact ⟨h0, .inl h3⟩
  · exact ⟨h0, .inr ⟨b, cap, cur, e1, e2, (ht.block b (Blk.lt e3)).trans e3, e4⟩⟩
theorem GrI.setNew {a b : World} (h : GrI a b) {g : Nat} (hg : a.heap.size ≤ g) (i : Nat) (u : Value) : GrI a (b.setCell ⟨g, i, none⟩ u) := by
  obtain ⟨q, os, rfl⟩ := h
  exact ⟨q, _, by rw [Sort.setCell_eq, Sort.mapBlock_grow_new _ _ _ _ (by simpa [World.drewN] using hg)]⟩
theorem results_cellI {fn : Func} {p : Tmp} {ty : TypeId} (h : fn.results = #[.cell p ty]) (tmps : Array Value) (P : Program) (w : World) (g : Nat) (t : TypeId) (cs : Array Value) (fr : Nat × Nat) (fs : Array Field)
    (hp : tmps.getD p undef = .pointer (some ⟨g, 0, none⟩)) (hg : w.heap[g]? = some (.cells cs t fr))
    (hu : P.underlying ty = some (.struct fs)) (hi : (P.info? ty).map (·.size) = some cs.size) :
    (results fn tmps).run P w = .ok (.agg cs) w := by
  have hp' : tmps[p]?.getD undef = .pointer (some ⟨g, 0, none⟩) := by simpa using hp
  simp [results, h, hp', asAddr, run_loadVar_row w g t ty cs fr _ hg hu rfl hi]
theorem item_out {cs : Array Value} (hc : cs.size = 4) {R : Ending → World → Prop} {a : Act} {w : World} {g : Nat} (h2 : a.tmps.getD 4 undef = .pointer (some ⟨g, 0, none⟩)) (hd : a.defers = []) (hg : Blk w g 62 cs)
    (hR : R (.returned (.agg cs)) w) : bodyPost Try.prog Try.f48 R .ret a w :=
  bodyPost_ret (results_cellI (fn := Try.f48) rfl a.tmps Try.prog w g 62 cs (0, 0) _ h2 hg Try.underlying62 (by rw [hc]; rfl)) hd hR
set_option maxHeartbeats 2000000 in
theorem item_any (u : ByteArray) (v : Int) (x : ByteArray) (w : World) : Calls Try.prog 48 #[.string u, .agg #[.int .i64 v, .string x]] w fun e w' => e = .returned (.agg #[.string u, .int .i64 v, .bool false, .string x]) ∧ GrI w w' := by
  obtain ⟨n, hn⟩ : ∃ n, w.heap.size = n := ⟨_, rfl⟩
  obtain ⟨wA, hwA⟩ : ∃ wA, (w.alloc (.cells #[.int .i64 v, .string x] 68)).alloc (.cells #[.string ⟨#[]⟩, .int .i64 0, .bool false, .string ⟨#[]⟩] 62) = wA := ⟨_, rfl⟩
  have HB1 := Lib.hid (show Blk wA n 68 #[.int .i64 v, .string x] from hwA ▸ hn ▸ (Blk.new w _ _).alloc _)
  have HB2 := Lib.hid (show Blk wA (n + 1) 62 #[.string ⟨#[]⟩, .int .i64 0, .bool false, .string ⟨#[]⟩] from by
    have := Blk.new (w.alloc (.cells #[.int .i64 v, .string x] 68)) 62 #[.string ⟨#[]⟩, .int .i64 0, .bool false, .string ⟨#[]⟩]
    rw [World.size_alloc, hwA, hn] at this
    exact this)
  have HW := Lib.hid (show GrI w wA from hwA ▸ ((GrI.refl w).alloc _).alloc _)
  have HN := Lib.hid hn
  have a0 : wA.cell? ⟨n, 0, none⟩ = some (.int .i64 v) := HB1.out.cell 0
  have a1 : wA.cell? ⟨n, 1, none⟩ = some (.string x) := HB1.out.cell 1
  have z0 := HB2.out.cell 0
  have z1 := HB2.out.cell 1
  have z2 := HB2.out.cell 2
  have z3 := HB2.out.cell 3
  have f0 := HB2.out.frozen 0
  have f1 := HB2.out.frozen 1
  have f2 := HB2.out.frozen 2
  have f3 := HB2.out.frozen 3
  go_enter Try.func48, Try.ntmps48
  go_wp2
  refine item_out (cs := #[.string u, .int .i64 v, .bool false, .string x]) (g := n + 1) rfl rfl rfl ((((HB2.out.set_ 0 (.string u)).set_ 1 (.int .i64 v)).set_ 2 (.bool false)).set_ 3 (.string x)) ⟨rfl, ?_⟩
  have hN := HN.out
  exact (((HW.out.setNew (by omega) 0 _).setNew (by omega) 1 _).setNew (by omega) 2 _).setNew (by omega) 3 _
set_option maxHeartbeats 8000000 in
theorem live_any {w : World} {B0 g : Nat} {c : Cs} (hR : Cl w B0 g c) (hn : c.L.length ≤ 1000000) (hks : ∀ q ∈ c.L, q.1.size ≤ 1000000) : Calls Try.prog 22 #[.pointer (some ⟨g, 0, none⟩)] w fun e w' => ∃ U, e = .returned U ∧ w'.ownsRow w.heap.size 62 4 U c.L.length (itsC (itsK c.L)) ∧ Below w.heap.size w w' := by
  obtain ⟨i0, hi, hz0, hz1, hz2⟩ := info_parts infoIt
  have HLN := Lib.hid (cl_len hR)
  obtain ⟨m, R, hbx, hom, -, -, -⟩ := hR
  have c0 := hbx.cell 0
  simp only [List.getElem?_toArray, List.getElem?_cons_zero] at c0
  have HRB := Lib.hid hbx
  obtain ⟨L, hL⟩ : ∃ L, c.L = L := ⟨_, rfl⟩
  rw [hL] at hom hn hks HLN ⊢
  obtain ⟨t, hM, rfl, hS⟩ := hom
  obtain ⟨w1, hmk, hrow1, hg1⟩ := run_make_own (P := Try.prog) w w.heap.size 40 62 i0 _ 4 Try.underlying40 hi hz0 hz1 .i64 .i64 t.ino.length (by rw [hz2]; omega) (by unfold maxLen; omega) (Nat.le_refl _)
  have hB1 : Below w.heap.size w w1 := ⟨hg1.os, hg1.tape, hg1.output, hg1.size, fun j hj => hg1.block j hj (by simp)⟩
  have HB1 := Lib.hid hB1
  have HM := Lib.hid hM
  have d0 := ((HRB.out.below hB1 HRB.out.lt).alloc (.cells #[.slice (some ⟨w.heap.size, 0, none⟩) 0 t.ino.length] 40)).cell 0
  simp only [List.getElem?_toArray, List.getElem?_cons_zero] at d0
  have hd : Fence.wide.depth = none := rfl
  have hall : ∀ f, Fence.wide.fn f := fun _ => trivial
  have hro : Fence.wide.round = none := rfl
  have h1 : 1 ≤ 6 := by decide
  have hnI : (t.ino.length : Int) ≤ 1000000 := by omega
  clear hM hB1 hbx hL
  refine (callsIn_wide (n := 6)).1 ?_
  refine callsIn_of_wp_marks Try.func22 rfl (hall _) ?_ hro
  simp only [Try.ntmps22, List.size_toArray, List.length_cons, List.length_nil, Nat.reduceAdd, Nat.reduceSub, Array.replicate_succ, Array.replicate_zero, List.push_toArray, List.append_toArray, List.nil_append, List.cons_append]
  gi_wp2_with (first
    | (gi_at_call 36; refine (callsIn_wide.2 HLN.out).mono ?_; rintro _ wz ⟨rfl, hw0⟩; replace hw0 := hw0.symm; subst hw0)
    | (gi_at_call 47; refine (callsIn_wide.2 (OC.all_fn m _)).mono ?_; rintro _ wz ⟨rfl, hw0⟩; replace hw0 := hw0.symm; subst hw0)
    | fail)
  obtain ⟨W0, hW0⟩ : ∃ W0, ((w1.alloc (.cells #[.slice (some ⟨w.heap.size, 0, none⟩) 0 t.ino.length] 40)).alloc (.cells #[.pointer (some ⟨m, 0, none⟩)] 65)).alloc (.cells #[.string .empty] 9) = W0 := ⟨_, rfl⟩
  have hs1 : w.heap.size ≤ w1.heap.size := HB1.out.size
  have bO : Boxed W0 w1.heap.size 40 (.slice (some ⟨w.heap.size, 0, none⟩) 0 t.ino.length) := by
    rw [← hW0]; exact ((Boxed.new w1 40 _).alloc _).alloc _
  have bM : Boxed W0 (w1.heap.size + 1) 65 (.pointer (some ⟨m, 0, none⟩)) := by
    have := (Boxed.new (w1.alloc (.cells #[.slice (some ⟨w.heap.size, 0, none⟩) 0 t.ino.length] 40)) 65 (.pointer (some ⟨m, 0, none⟩))).alloc (.cells #[.string .empty] 9)
    rw [World.size_alloc] at this
    rw [← hW0]; exact this
  have bX : Boxed W0 (w1.heap.size + 1 + 1) 9 (.string .empty) := by
    have := Boxed.new ((w1.alloc (.cells #[.slice (some ⟨w.heap.size, 0, none⟩) 0 t.ino.length] 40)).alloc (.cells #[.pointer (some ⟨m, 0, none⟩)] 65)) 9 (.string .empty)
    rw [World.size_alloc, World.size_alloc] at this
    rw [← hW0]; exact this
  have hB0 : Below w1.heap.size w1 W0 := by
    rw [← hW0]; exact (((Below.refl _ w1).alloc (Nat.le_refl _) _).alloc (by simp) _).alloc (by simp; omega) _
  have hBw : Below w.heap.size w W0 := HB1.out.trans (hB0.mono hs1)
  have hrow0 : W0.ownsRow w.heap.size 62 4 (.slice (some ⟨w.heap.size, 0, none⟩) 0 t.ino.length) 0 [] := by
    rw [← hW0]; exact ((hrow1.alloc _).alloc _).alloc _
  have hM0 : OC.Mt W0 m t := HM.out.below hBw
  have hs0 : W0.heap.size = w1.heap.size + 1 + 1 + 1 := by rw [← hW0]; simp
  have hU : Tr.und .empty t = t.ino := Tr.und_empty t
  rw [hW0]
  have hst := OC.und_stops 5 (w1.heap.size + 1) (w1.heap.size + 1 + 1) m t .empty (by decide) W0 bM.lt bX.lt bM.cell bX.cell hM0 hks
  rw [hU] at hst
  clear d0 c0
  refine wpIn_rangeFunc_ownH (F := Fence.wide) (n := 6) hro h1 (gf := 75) (lb := #[.pointer (some ⟨w1.heap.size + 1, 0, none⟩), .pointer (some ⟨w1.heap.size + 1 + 1, 0, none⟩)]) rfl (hall _) (enters_of Try.func75 (by kernel_rfl) rfl)
    hst (fun h k => h.trans k) (fun W l o o' hl h1 h2 h3 => OC.KeepN.put (w := W0) W l o o' hl h1 h2 h3) (Below.refl _ _) (fun _ => rfl)
    (fun pre W => (∃ v, Boxed W w1.heap.size 40 v ∧ W.ownsRow w.heap.size 62 4 v pre.length (itsC (itsK pre)) ∧ True) ∧ Below w.heap.size w W)
    (fun _ _ _ => False)
    (OwnFrom.and (Own.from (holdsRow_own w.heap.size w1.heap.size 40 62 4 (fun pre => pre.length) (fun pre => itsC (itsK pre)) (fun _ _ => True)) _) (ownFrom_below (Nat.le_refl _) hBw.size))
    (fun _ _ _ _ _ hs _ _ => hs)
    ⟨⟨_, bO, hrow0, trivial⟩, hBw⟩
    (fun x a W => ∃ B, Blk W B 68 #[.int .i64 x.2.1, .string x.2.2] ∧ a = { tmps := #[.pointer (some ⟨g, 0, none⟩), undef, .slice none 0 0, .pointer (some ⟨w1.heap.size, 0, none⟩), .string x.1, .pointer (some ⟨B, 0, none⟩), .pointer (some ⟨g, 0, none⟩), .int .i64 (t.ino.length : Int), .slice (some ⟨w.heap.size, 0, none⟩) 0 t.ino.length, .pointer (some ⟨g, 0, none⟩), .pointer (some ⟨g, 0, none⟩), .pointer (some ⟨g, 0, none⟩), .pointer (some ⟨m, 0, none⟩), .func (.func 75) #[] #[.pointer (some ⟨w1.heap.size + 1, 0, none⟩), .pointer (some ⟨w1.heap.size + 1 + 1, 0, none⟩)], .string x.1, .agg #[.int .i64 x.2.1, .string x.2.2], undef, undef, undef, undef, undef, undef, undef], defers := [] })
    (fun x a' => fun _ X Y row hs hg hr => by
      obtain ⟨B, h1, h2⟩ := hs
      exact ⟨B, h1.grown hg (fun e => by
        obtain ⟨_, o, ho, hc⟩ := hr B e.symm
        unfold Blk at h1
        rw [h1] at ho
        cases ho
        cases hc), h2⟩) ?assign ?body ?done ?stop
  case assign =>
    rintro l pre x W K ⟨⟨v, hv, hrow, _⟩, hB⟩ hK
    have HV := Lib.hid hv
    have HROW := Lib.hid hrow
    have HBB := Lib.hid hB
    clear hv hrow hB
    obtain ⟨n, hn2⟩ : ∃ n, W.heap.size = n := ⟨_, rfl⟩
    obtain ⟨W1, hW1⟩ : ∃ W1, W.alloc (.cells #[.int .i64 0, .string { data := #[] }] 68) = W1 := ⟨_, rfl⟩
    have HC1 := Lib.hid (show Below W.heap.size W W1 from hW1 ▸ (Below.refl _ W).alloc (Nat.le_refl _) _)
    have HY1 := Lib.hid (show Blk W1 n 68 #[.int .i64 0, .string .empty] from hn2 ▸ hW1 ▸ Blk.new W 68 _)
    have y0 := HY1.out.cell 0
    have y1 := HY1.out.cell 1
    have f0 := HY1.out.frozen 0
    have f1 := HY1.out.frozen 1
    have HY2 := Lib.hid ((HY1.out.set_ 0 (.int .i64 x.2.1)).set_ 1 (.string x.2.2))
    have HC2 := Lib.hid (((HC1.out.mono (Nat.le_of_eq hn2.symm)).setCell (p := ⟨n, 0, none⟩) (Nat.le_refl _) (.int .i64 x.2.1)).setCell (p := ⟨n, 1, none⟩) (Nat.le_refl _) (.string x.2.2))
    have HK := Lib.hid hK
    clear hK
    simp only [OC.enI]
    gi_wp2
    have hC' := HC2.out.mono (Nat.le_of_eq hn2)
    exact HK.out _ _ (keepsFrom_below hC') (OC.KeepN.of hC') ⟨⟨v, boxed_below HV.out hC', own_below HROW.out hC', trivial⟩, HBB.out.trans (hC'.mono HBB.out.size)⟩ ⟨n, HY2.out, rfl⟩
  case body =>
    rintro l pre x a' W _ _ ⟨⟨v, hv, hrow, _⟩, hB⟩ ⟨B, hbx, rfl⟩ hlt
    have HV := Lib.hid hv
    have HROW := Lib.hid hrow
    have HBB := Lib.hid hB
    have HBX := Lib.hid hbx
    have HIT := Lib.hid (fun W => item_any x.1 x.2.1 x.2.2 W)
    have HH := Lib.hid (fun W' (hb : Below W.heap.size W W') => (⟨(boxed_below HV.out hb).cell, (HBX.out.below hb HBX.out.lt).cell 0, (HBX.out.below hb HBX.out.lt).cell 1⟩ : W'.cell? ⟨w1.heap.size, 0, none⟩ = some v ∧ W'.cell? ⟨B, 0, none⟩ = some (.int .i64 x.2.1) ∧ W'.cell? ⟨B, 1, none⟩ = some (.string x.2.2)))
    have HF0 := Lib.hid ((Below.refl W.heap.size W).drew)
    have hplt : pre.length < 1000000 := by omega
    clear hv hrow hB hbx
    gi_wp2
    refine wpIn_region_E [([5], fun w' => w'.cell? ⟨w1.heap.size, 0, none⟩ = some v), ([3], fun w' => w'.cell? ⟨B, 0, none⟩ = some (.int .i64 x.2.1) ∧ w'.cell? ⟨B, 1, none⟩ = some (.string x.2.2))] (by kernel_rfl) (by kernel_rfl) ⟨fun _ => (HH.out _ HF0.out).1, fun _ => (HH.out _ HF0.out).2, trivial⟩ (fun hHeld => ?_)
    refine wpAnyE_load (i := 0) _ _ (v := ?_) rfl (by kernel_rfl) List.mem_cons_self (by kernel_rfl) (by kernel_rfl) (by kernel_rfl) (by kernel_rfl) (fun _ _ _ h => h) (Or.inl ⟨by rfl, ?_⟩) hHeld (fun hHeld => ?_)
    rotate_left
    · (intro w hSw; (try dsimp only at hSw); (try simp only [List.getElem_toArray, List.getElem_cons_succ, List.getElem_cons_zero]); go_simp; try with_reducible rfl)
    try simp only [List.getElem_toArray, List.getElem_cons_succ, List.getElem_cons_zero, Act.put, List.setIfInBounds_toArray, List.set_cons_zero, List.set_cons_succ]
    refine wpAnyE_take (i := 1) (v := ?_) rfl (by kernel_rfl) (by kernel_rfl) (by kernel_rfl) (by kernel_rfl) (fun _ _ _ h => h) (Or.inl ⟨by rfl, ?_⟩) hHeld (fun hHeld => ?_)
    rotate_left
    · (intro w hSw; (try dsimp only at hSw); (try simp only [List.getElem_toArray, List.getElem_cons_succ, List.getElem_cons_zero]); go_simp; try with_reducible rfl)
    try simp only [List.getElem_toArray, List.getElem_cons_succ, List.getElem_cons_zero, Act.put, List.setIfInBounds_toArray, List.set_cons_zero, List.set_cons_succ]
    refine wpAnyE_load (i := 2) _ _ (v := ?_) rfl (by kernel_rfl) (List.mem_cons_of_mem _ List.mem_cons_self) (by kernel_rfl) (by kernel_rfl) (by kernel_rfl) (by kernel_rfl) (fun _ _ _ h => h) (Or.inl ⟨by rfl, ?_⟩) hHeld (fun hHeld => ?_)
    rotate_left
    · (intro w hSw; (try dsimp only at hSw); (try simp only [List.getElem_toArray, List.getElem_cons_succ, List.getElem_cons_zero]); go_simp; try with_reducible rfl)
    try simp only [List.getElem_toArray, List.getElem_cons_succ, List.getElem_cons_zero, Act.put, List.setIfInBounds_toArray, List.set_cons_zero, List.set_cons_succ]
    refine wpAnyE_ready (rs := [3]) (by kernel_rfl) (by simp) (AllE.cons rfl (fun K hK => ?_) AllE.nil)
    clear hHeld
    go_simp
    refine (HIT.out _).mono ?_
    rintro _ W1 ⟨rfl, hg⟩
    have HF1 := Lib.hid (HF0.out.trans (hg.below.mono (Nat.le_refl _)))
    clear hg
    refine hK.out _ _ ⟨fun _ => (HH.out _ HF1.out).1, (fun e => absurd e (Bool.eq_false_iff.1 (by kernel_rfl))), trivial⟩ (fun hHeld => ?_)
    clear hK K
    try simp only [List.getElem_toArray, List.getElem_cons_succ, List.getElem_cons_zero, Act.put, List.setIfInBounds_toArray, List.set_cons_zero, List.set_cons_succ]
    have HF2 := Lib.hid (HF1.out.alloc HF1.out.size (.cells #[.string x.1, .int .i64 x.2.1, .bool false, .string x.2.2] 62))
    have HN2 := Lib.hid (Blk.new W1 62 #[.string x.1, .int .i64 x.2.1, .bool false, .string x.2.2])
    have HO2 := Lib.hid (own_below HROW.out HF2.out)
    have HSW := Lib.hid (show w.heap.size ≤ W.heap.size from HBB.out.size)
    have HSW1 := Lib.hid (show w.heap.size ≤ W1.heap.size from Nat.le_trans HBB.out.size HF1.out.size)
    have HSW2 := Lib.hid (show w.heap.size ≤ (W1.alloc (.cells #[.string x.1, .int .i64 x.2.1, .bool false, .string x.2.2] 62)).heap.size from Nat.le_trans HBB.out.size HF2.out.size)
    refine wpAnyE_ready (rs := [4]) (by kernel_rfl) (by simp) (AllE.cons rfl (fun K hK => ?_) AllE.nil)
    clear hHeld
    go_simp
    refine hK.out _ _ ⟨fun _ => (HH.out _ HF2.out).1, (fun e => absurd e (Bool.eq_false_iff.1 (by kernel_rfl))), trivial⟩ (fun hHeld => ?_)
    clear hK K
    try simp only [List.getElem_toArray, List.getElem_cons_succ, List.getElem_cons_zero, Act.put, List.setIfInBounds_toArray, List.set_cons_zero, List.set_cons_succ]
    refine wpAnyE_ready (rs := [5]) (by kernel_rfl) (by simp) (AllE.cons rfl (fun K hK => ?_) AllE.nil)
    clear hHeld
    refine step_append_lies _ rfl (.tmp 16) (.tmp 20) 40 rfl w.heap.size 62 i0 _ 4 48 Try.underlying40 hi hz0 hz1 hz2 rfl (by decide) _ pre.length _ rfl HO2.out ⟨W1.heap.size, 0, none⟩ 1 1 [.string x.1, .int .i64 x.2.1, .bool false, .string x.2.2] rfl rfl (World.news_of_block HN2.out) (by simp [Value.oneCell']) (by decide) (by unfold maxLen; omega) (by omega) HSW2.out _ rfl ?_
    intro g3 cap3 w3 hown hgr _ _
    obtain ⟨hv1, hv2, hr2, hk2, hb2⟩ := (boxed_below HV.out HF1.out).appended (by decide) (own_below HROW.out HF1.out) HSW1.out hs1 hown hgr
    have e1 := hv1.cell
    have f1 := hv1.frozen
    have HKN := Lib.hid (((OC.KeepN.of HF2.out).trans (OC.KeepN.grown HO2.out (by decide) hgr)).trans (OC.KeepN.set (g := w1.heap.size) (t := 40) hv1 (by decide) 0 (.slice (some ⟨g3, 0, none⟩) (pre.length + 1) cap3)))
    have HV2 := Lib.hid hv2
    have HR2 := Lib.hid hr2
    have HK2 := Lib.hid hk2
    have HB2 := Lib.hid hb2
    clear hown hgr hv1 hv2 hr2 hk2 hb2
    refine hK.out _ _ ⟨(fun e => absurd e (Bool.eq_false_iff.1 (by kernel_rfl))), (fun e => absurd e (Bool.eq_false_iff.1 (by kernel_rfl))), trivial⟩ (fun hHeld => ?_)
    clear hK K
    try simp only [List.getElem_toArray, List.getElem_cons_succ, List.getElem_cons_zero, Act.put, List.setIfInBounds_toArray, List.set_cons_zero, List.set_cons_succ]
    refine wpAnyE_ready (rs := [6]) (by kernel_rfl) (by simp) (AllE.cons rfl (fun K hK => ?_) AllE.nil)
    clear hHeld
    go_simp
    refine hK.out _ _ ⟨(fun e => absurd e (Bool.eq_false_iff.1 (by kernel_rfl))), (fun e => absurd e (Bool.eq_false_iff.1 (by kernel_rfl))), trivial⟩ (fun hHeld => ?_)
    clear hK K
    try simp only [List.getElem_toArray, List.getElem_cons_succ, List.getElem_cons_zero, Act.put, List.setIfInBounds_toArray, List.set_cons_zero, List.set_cons_succ]
    refine wpAnyE_done (by kernel_rfl) (only_normal ?_) _
    have e : itsC (itsK (pre ++ [x])) = itsC (itsK pre) ++ [.string x.1, .int .i64 x.2.1, .bool false, .string x.2.2] := by unfold itsK; rw [List.map_append, List.map_singleton, itsC_snoc]; rfl
    exact ⟨(keepsFrom_below HF1.out).trans (HK2.out.from _), HKN.out, ⟨_, HV2.out, by rw [e, List.length_append]; exact HR2.out, trivial⟩, (HBB.out.trans (HF1.out.mono HSW.out)).trans HB2.out⟩
  case done =>
    rintro D ys W hD rfl ⟨⟨v, hv, hrow, _⟩, hB⟩ hK
    have hc := hv.cell
    gi_wp2
    refine ⟨by simp, .inl ⟨_, _, rfl, run_takeDeferred hK, ?_⟩⟩
    have hrow' := ownsRow_putObj hrow (.deferred none) hK rfl
    exact ⟨_, results_tmp rfl _ _ _, v, rfl, hrow', hB.trans (belowK_b (w := w) (Nat.le_refl _) W D _ _ (by omega) hK rfl rfl)⟩
  case stop =>
    rintro D c pre W _ _ h _
    exact h.elim
end Go.Proofs.Ythcjbljkokflgaa
/- The ring of changes gone through from its end: Back as an iterator. -/
namespace Go.Proofs.Ythcjbljkokflgaa
open Go.RowKit
open Go.Lib
open Go.Shelf
attribute [local go_sem] Oper.semAt_some
set_option linter.unusedVariables false
set_option linter.unusedSimpArgs false
set_option maxRecDepth 100000
def Kb (l : List Nat) (W W' : World) : Prop := ∀ b ∈ l, W'.heap[b]? = W.heap[b]?
theorem Kb.trans {l : List Nat} {A B C : World} (h : Kb l A B) (k : Kb l B C) : Kb l A C := fun b hb => (k b hb).trans (h b hb)
theorem Kb.refl (l : List Nat) (A : World) : Kb l A A := fun _ _ => rfl
theorem ring_len {w : World} {R n : Nat} {most : Int} {F : Nat} {A : Option Addr} {cap : Nat} (hb : Blk w R 108 #[.int .i64 most, .slice A n cap, .int .i64 (F : Int)]) : Calls Try.prog 79 #[.pointer (some ⟨R, 0, none⟩)] w fun e w' => e = .returned (.int .i64 (n : Int)) ∧ w' = w := by
  have c1 := hb.cell 1
  simp only [List.getElem?_toArray, List.getElem?_cons_zero, List.getElem?_cons_succ] at c1
  clear hb
  go_enter Try.func79, Try.ntmps79
  go_wp2
  go_ret
  exact ⟨rfl, rfl⟩
/-- What the ring holds, from the first on. -/
def ord (F : Nat) (l : List Chg) : List Chg := l.drop F ++ l.take F
theorem ord_len (F : Nat) (l : List Chg) : (ord F l).length = l.length := by unfold ord; simp; omega
theorem ord_at {F k : Nat} {l : List Chg} {x : Chg} (hF : F < l.length) (h : (ord F l)[k]? = some x) : l[(F + k) % l.length]? = some x := by
  have hk : k < l.length := by have := (List.getElem?_eq_some_iff.1 h).1; rw [ord_len] at this; exact this
  unfold ord at h
  by_cases h1 : F + k < l.length
  · rw [List.getElem?_append_left (by rw [List.length_drop]; omega), List.getElem?_drop] at h
    rw [Nat.mod_eq_of_lt h1]; exact h
  · rw [List.getElem?_append_right (by rw [List.length_drop]; omega), List.length_drop, List.getElem?_take, if_pos (by omega)] at h
    rw [Nat.mod_eq_sub_mod (by omega), Nat.mod_eq_of_lt (by omega), show F + k - l.length = k - (l.length - F) by omega]
    exact h
structure Rb (w : World) (R g n F : Nat) (most : Int) (A : Option Addr) (cap : Nat) (xs : List Chg) : Prop where
  box : Blk w R 108 #[.int .i64 most, .slice A n cap, .int .i64 (F : Int)]
  xln : xs.length = n
  lt : 0 < n → F < n
  glt : g < w.heap.size
  at' : ∀ k x, xs[k]? = some x → A = some ⟨g, 0, none⟩ ∧ n ≤ cap ∧ w.cell? ⟨g, (F + k) % n * 2, none⟩ = some (.int .i64 x.1) ∧ w.cell? ⟨g, (F + k) % n * 2 + 1, none⟩ = some (.string x.2)
theorem Rb.keep {w w' : World} {R g n F : Nat} {most : Int} {A : Option Addr} {cap : Nat} {xs : List Chg} (h : Rb w R g n F most A cap xs) (h1 : w'.heap[R]? = w.heap[R]?) (h2 : w'.heap[g]? = w.heap[g]?) : Rb w' R g n F most A cap xs :=
  ⟨h1.trans h.box, h.xln, h.lt, (by
    have e := Array.getElem?_eq_getElem h.glt
    rw [← h2] at e
    exact (Array.getElem?_eq_some_iff.1 e).1), fun k x hx => by
    obtain ⟨a1, a2, a3, a4⟩ := h.at' k x hx
    exact ⟨a1, a2, (World.cell?_of_block (w := w) h2).trans a3, (World.cell?_of_block (w := w) h2).trans a4⟩⟩
theorem rb_of {w : World} {B R : Nat} {most : Int} {F : Nat} {l : List Chg} (h : Rg w B R most F l) (hF : 0 < l.length → F < l.length) : ∃ g A cap, Rb w R g l.length F most A cap (ord F l) ∧ (g = R ∨ B ≤ g) := by
  obtain ⟨v, h1, ⟨h0, ⟨rfl, hz⟩ | ⟨g, cap, cur, rfl, e2, e3, e4, e5, e6, e7⟩⟩, h3⟩ := h
  · refine ⟨R, none, 0, ⟨?_, ord_len _ _, hF, h1.lt, fun k x hx => ?_⟩, .inl rfl⟩
    · rw [hz]; exact h1
    · have := (List.getElem?_eq_some_iff.1 hx).1; rw [ord_len] at this; omega
  · have hb : Blk w g 72 cur := e3
    refine ⟨g, some ⟨g, 0, none⟩, cap, ⟨h1, ord_len _ _, hF, hb.lt, fun k x hx => ?_⟩, .inr e2⟩
    have hk := (List.getElem?_eq_some_iff.1 hx).1
    rw [ord_len] at hk
    have hx2 := ord_at (hF (by omega)) hx
    obtain ⟨M, hM⟩ : ∃ M, (F + k) % l.length = M := ⟨_, rfl⟩
    rw [hM] at hx2 ⊢
    have hm := (List.getElem?_eq_some_iff.1 hx2).1
    have key : ∀ i, i < 2 → w.cell? ⟨g, M * 2 + i, none⟩ = (chV x)[i]? := fun i hi => by
      rw [hb.cell, ← chC_get l M x hx2 i hi, ← e7, List.getElem?_take, if_pos (by omega), Array.getElem?_toList]
    exact ⟨rfl, e4, key 0 (by omega), key 1 (by omega)⟩
def enC (x : Chg) : Array Value := #[.agg #[.int .i64 x.1, .string x.2]]
theorem rev_snoc {xs : List Chg} {n q : Nat} {x : Chg} (hn : xs.length = n) (hx : xs[q]? = some x) (hq : q + 1 ≤ n) : xs.reverse.take (n - q) = xs.reverse.take (n - (q + 1)) ++ [x] := by
  rw [show n - q = (n - (q + 1)) + 1 by omega, List.take_add_one, List.getElem?_reverse (by omega), show xs.length - 1 - (n - (q + 1)) = q by omega, hx]
  rfl
def YC (J Jx : List Chg → World → Prop) (l : List Nat) (pre : List Chg) (x : Chg) (W1 : World) (e : Ending) (W' : World) : Prop := ∃ b, e = .returned (.bool b) ∧ ((b = true ∧ J (pre ++ [x]) W' ∧ Kb l W1 W') ∨ (b = false ∧ Jx (pre ++ [x]) W'))
set_option maxHeartbeats 8000000 in
theorem back_stops (m R g Bm n F : Nat) (most : Int) (A : Option Addr) (cap : Nat) (xs : List Chg) (w : World) (hR : Rb w R g n F most A cap xs) (hn : n ≤ 1000000) (hm : Blk w Bm 69 #[.pointer (some ⟨R, 0, none⟩)]) :
    SeqStopsK Fence.wide m Try.prog 78 #[.pointer (some ⟨Bm, 0, none⟩)] enC (Kb [R, g, Bm]) (fun ys => ys = xs.reverse) (fun pre => pre <+: xs.reverse) n w := fun l J Jx W hW hJ hJx hY h0 => by
  have hRW : Rb W R g n F most A cap xs := hR.keep (hW.block R hR.box.lt) (hW.block g hR.glt)
  have hmW : Blk W Bm 69 #[.pointer (some ⟨R, 0, none⟩)] := (hW.block Bm hm.lt).trans hm
  have hY2 : ∀ pre x W1, J pre W1 → pre.length < n → YieldAt Fence.wide (m - 1) Try.prog l (enC x) W1 (YC J Jx [R, g, Bm] pre x W1) := fun pre x W1 hj hl => by
    obtain ⟨fn, tmps, assign, body, hy, hR⟩ := hY pre x W1 hj hl
    exact ⟨fn, tmps, assign, body, hy, hR.mono (fun e W' h => h.elim (fun ⟨he, h1, h2⟩ => ⟨true, he, .inl ⟨rfl, h1, h2⟩⟩) (fun ⟨he, h1⟩ => ⟨false, he, .inr ⟨rfl, h1⟩⟩))⟩
  have HY := Lib.hid hY2
  have HR := Lib.hid hRW
  have HM := Lib.hid hmW
  have HJ := Lib.hid hJ
  have hd : Fence.wide.depth = none := rfl
  have hall : ∀ f, Fence.wide.fn f := fun _ => trivial
  have hro : Fence.wide.round = none := rfl
  have hxn : xs.length = n := hR.xln
  have HXN := Lib.hid hxn
  have m0 := hmW.cell 0
  simp only [List.getElem?_toArray, List.getElem?_cons_zero] at m0
  have hnI : (n : Int) ≤ 1000000 := by omega
  clear hY hY2 hRW hmW hR hm hJ hJx hxn
  refine callsIn_of_wp Try.func78 rfl (hall _) ?_ hro
  simp only [Try.ntmps78, List.size_toArray, List.length_cons, List.length_nil, Nat.reduceAdd, Nat.reduceSub, Array.replicate_succ, Array.replicate_zero, List.push_toArray, List.append_toArray, List.nil_append, List.cons_append]
  gi_wp2_with (gi_at_call 79; refine (callsIn_wide.2 (ring_len HR.out.box)).mono ?_; rintro _ wz ⟨rfl, hw0⟩; replace hw0 := hw0.symm; subst hw0)
  clear m0
  gi_loopw [3] (fun i wr => ∃ (k : Nat) (z : Int), k ≤ n ∧ z = (k : Int) - 1 ∧ i = .int .i64 z ∧ J (xs.reverse.take (n - k)) wr ∧ Kb [R, g, Bm] W wr) (fun i _ => (intOf i + 1).toNat)
  case atStart => exact ⟨n, _, Nat.le_refl _, rfl, rfl, by rw [Nat.sub_self]; exact h0, Kb.refl _ _⟩
  case round =>
    obtain ⟨k, z, hk, hz, rfl, hj, hkb⟩ := hrel
    have HRr := Lib.hid (HR.out.keep (hkb R (by simp)) (hkb g (by simp)))
    have HMr := Lib.hid (show Blk wr Bm 69 #[.pointer (some ⟨R, 0, none⟩)] from (hkb Bm (by simp)).trans HM.out)
    have HKB := Lib.hid hkb
    have HJr := Lib.hid hj
    clear hj hkb
    by_cases hlt : 0 < k
    · obtain ⟨q, rfl⟩ : ∃ q, k = q + 1 := ⟨k - 1, by omega⟩
      obtain rfl : z = (q : Int) := by omega
      clear hz
      obtain ⟨x, hx⟩ : ∃ x, xs[q]? = some x := ⟨xs[q]'(by rw [HXN.out]; omega), List.getElem?_eq_getElem _⟩
      obtain ⟨rfl, hcap, cF, cG⟩ := HRr.out.at' q x hx
      have hb := HRr.out.box
      have c1 : wr.drew.cell? ⟨R, 1, none⟩ = some (.slice (some ⟨g, 0, none⟩) n cap) := hb.cell 1
      have m1 : wr.drew.cell? ⟨Bm, 0, none⟩ = some (.pointer (some ⟨R, 0, none⟩)) := HMr.out.cell 0
      have hF := HRr.out.lt (by omega)
      have HX := Lib.hid hx
      have hmd : (F + q) % n < n := Nat.mod_lt _ (by omega)
      have CP := Lib.hid (fun W (h : Blk W R 108 #[.int .i64 most, .slice (some ⟨g, 0, none⟩) n cap, .int .i64 (F : Int)]) => rg_place (i := q) h (by omega) (by omega) hF (by omega))
      obtain ⟨M, hM⟩ : ∃ M, (F + q) % n = M := ⟨_, rfl⟩
      rw [hM] at cF cG CP hmd
      have hMI : (M : Int) < (n : Int) := by omega
      have hkI : (q : Int) < (n : Int) := by omega
      have HTK := Lib.hid (show xs.reverse.take (n - q) = xs.reverse.take (n - (q + 1)) ++ [x] from rev_snoc HXN.out hx hk)
      clear hM hb hx hcap
      gi_wp2
      gi_region_with (first
        | (gi_at_call 60
           refine (callsIn_wide.2 (CP.out _ ?_)).mono ?_
           · exact HRr.out.box
           rintro _ w2 ⟨rfl, nq2, rfl⟩
           obtain ⟨fn, tmps, assign, body, hy, hRR⟩ := HY.out (xs.reverse.take (n - (q + 1))) x (wr.drewN (1 + nq2)) (HJ.out _ _ _ none HJr.out ⟨rfl, rfl, rfl, Nat.le_refl _, fun _ _ _ => rfl⟩ (fun r e => by cases e)) (by rw [List.length_take]; omega)
           simp only [enC] at hy
           have c1 : (wr.drewN (1 + nq2)).cell? ⟨R, 1, none⟩ = some (.slice (some ⟨g, 0, none⟩) n cap) := c1
           have m1 : (wr.drewN (1 + nq2)).cell? ⟨Bm, 0, none⟩ = some (.pointer (some ⟨R, 0, none⟩)) := m1
           have cF : (wr.drewN (1 + nq2)).cell? ⟨g, M * 2, none⟩ = some (.int .i64 x.1) := cF
           have cG : (wr.drewN (1 + nq2)).cell? ⟨g, M * 2 + 1, none⟩ = some (.string x.2) := cG
           have HRR := Lib.hid hRR
           clear hRR
           go_simp)
        | (refine HRR.out.mono ?_
           rintro e W3 ⟨bb, rfl, hh⟩
           have HH := Lib.hid hh
           clear hh hy))
      all_goals (
        rcases HH.out with ⟨rfl, hj3, hk3⟩ | ⟨rfl, hx3⟩
        · have HJ3 := Lib.hid hj3
          have HK3 := Lib.hid (HKB.out.trans (show Kb [R, g, Bm] wr W3 from hk3))
          clear hj3 hk3
          gi_wp2
          go_roundw
          case rel => exact ⟨q, _, by omega, rfl, rfl, by rw [HTK.out]; exact HJ3.out, HK3.out⟩
          case measure => simp [intOf]
        · have HX3 := Lib.hid hx3
          clear hx3
          gi_wp2
          refine bodyPost_ret (results_none rfl _ _ _) rfl ?_
          exact ⟨⟨_, rfl⟩, .inr ⟨_, by rw [← HTK.out]; exact List.take_prefix _ _, HX3.out⟩⟩)
    · obtain rfl : k = 0 := by omega
      obtain rfl : z = -1 := by omega
      clear hz
      gi_wp2
      go_end0
      exact ⟨⟨_, rfl⟩, .inl ⟨_, by rw [Nat.sub_zero]; exact List.take_of_length_le (by rw [List.length_reverse, HXN.out]; exact Nat.le_refl _), HJr.out⟩⟩
theorem back_fn (R : Nat) (w : World) : Calls Try.prog 65 #[.pointer (some ⟨R, 0, none⟩)] w fun e w' => e = .returned (.func (.func 78) #[] #[.pointer (some ⟨w.heap.size, 0, none⟩)]) ∧ w' = w.alloc (.cells #[.pointer (some ⟨R, 0, none⟩)] 69) := by
  go_enter Try.func65, Try.ntmps65
  go_wp2
  go_ret
  exact ⟨rfl, rfl⟩
end Go.Proofs.Ythcjbljkokflgaa
namespace Go.Proofs.Ythcjbljkokflgaa.OI
open Go.RowKit
open Go.Lib
set_option linter.unusedVariables false
set_option linter.unusedSimpArgs false
set_option maxRecDepth 100000
abbrev T := Tr (Int)
def ncs (k : ByteArray) (v : Int) (s : Int) (pl pr : Option Addr) : Array Value := #[.string k, .int .i64 v, .int .i64 s, .pointer pl, .pointer pr]
def IsT (w : World) : T → Option Addr → Prop
  | .nil, p => p = none
  | .node k v l r, p => ∃ b pl pr, p = some ⟨b, 0, none⟩ ∧ Blk w b 138 (ncs k v ((l.size + 1 + r.size : Nat) : Int) pl pr) ∧ IsT w l pl ∧ IsT w r pr
/-- Blocks of nodes are as they were. -/
def KeepN (w w' : World) : Prop := ∀ b cs, Blk w b 138 cs → Blk w' b 138 cs
section
variable {w w' w2 : World} {p : Option Addr}
theorem KeepN.refl (w : World) : KeepN w w := fun _ _ h => h
theorem KeepN.trans (h : KeepN w w') (k : KeepN w' w2) : KeepN w w2 := fun b cs x => k b cs (h b cs x)
theorem KeepN.drew (w : World) : KeepN w w.drew := fun _ _ h => h
theorem KeepN.drew2 (w : World) : KeepN w w.drew.drew := fun _ _ h => h
theorem KeepN.of (h : Below w.heap.size w w') : KeepN w w' := fun b cs x => (h.block b x.lt).trans x
/-- A store into a block of another type. -/
theorem KeepN.set {g : Nat} {t : TypeId} {cs : Array Value} (h : Blk w g t cs) (ht : t ≠ 138) (i : Nat) (u : Value) : KeepN w (w.setCell ⟨g, i, none⟩ u) := fun b cs2 x => x.far (p := ⟨g, i, none⟩) (fun e => by
  have e : b = g := e
  subst e
  unfold Blk at h x
  rw [h] at x
  cases x
  exact ht rfl) u
theorem IsT.keep : ∀ {t : T} {p : Option Addr}, IsT w t p → KeepN w w' → IsT w' t p
  | .nil, p, h, _ => h
  | .node k v l r, p, ⟨b, pl, pr, h0, h1, h2, h3⟩, hk => ⟨b, pl, pr, h0, hk _ _ h1, IsT.keep h2 hk, IsT.keep h3 hk⟩
theorem IsT.below {t : T} (h : IsT w t p) (hb : Below w.heap.size w w') : IsT w' t p := h.keep (KeepN.of hb)
end
theorem size_any {w : World} {t : T} {p : Option Addr} (h : IsT w t p) : Calls Try.prog 81 #[.pointer p] w fun e w' => e = .returned (.int .i64 (t.size : Int)) ∧ w' = w := by
  cases t with
  | nil =>
    obtain rfl : p = none := h
    go_enter Try.func81, Try.ntmps81
    go_wp2
    go_ret
    exact ⟨rfl, rfl⟩
  | node k v l r =>
    obtain ⟨b, pl, pr, rfl, hb, _, _⟩ := h
    have c2 := hb.cell 2
    have hcs : (ncs k v ((l.size + 1 + r.size : Nat) : Int) pl pr)[2]? = some (.int .i64 ((l.size + 1 + r.size : Nat) : Int)) := rfl
    rw [hcs] at c2
    show Calls Try.prog 81 _ w fun e w' => e = .returned (.int .i64 ((l.size + 1 + r.size : Nat) : Int)) ∧ w' = w
    obtain ⟨n, hn⟩ : ∃ n : Nat, l.size + 1 + r.size = n := ⟨_, rfl⟩
    rw [hn] at c2 ⊢
    clear hb hcs hn
    go_enter Try.func81, Try.ntmps81
    go_wp2
    go_ret
    exact ⟨rfl, rfl⟩
/-- A node's key and value stand at p. -/
def Nd (w : World) (b : Nat) (k : ByteArray) (v : Int) : Prop := ∃ s x y, Blk w b 138 #[.string k, .int .i64 v, s, x, y]
theorem Nd.keep {w w' : World} {b : Nat} {k : ByteArray} {v : Int} (h : Nd w b k v) (hk : KeepN w w') : Nd w' b k v := by
  obtain ⟨s, x, y, h⟩ := h
  exact ⟨s, x, y, hk _ _ h⟩
set_option maxHeartbeats 4000000 in
theorem join_any {w : World} {l r : T} {pl pr : Option Addr} {b : Nat} {k : ByteArray} {v : Int} (hl : IsT w l pl) (hn : Nd w b k v) (hr : IsT w r pr) (hs : l.size + r.size ≤ 1000000) :
    Calls Try.prog 94 #[.pointer pl, .pointer (some ⟨b, 0, none⟩), .pointer pr] w fun e w' => ∃ p, e = .returned (.pointer p) ∧ IsT w' (.node k v l r) p ∧ Below w.heap.size w w' := by
  have HS1 := Lib.hid (size_any (hl.keep (KeepN.drew w)))
  have HS2 := Lib.hid (size_any (hr.keep (KeepN.drew w)))
  obtain ⟨s, x, y, hb⟩ := hn
  have c0 := hb.cell 0
  have c1 := hb.cell 1
  have HL := Lib.hid hl
  have HR := Lib.hid hr
  obtain ⟨m, hm⟩ : ∃ m, l.size = m := ⟨_, rfl⟩
  obtain ⟨n, hn⟩ : ∃ n, r.size = n := ⟨_, rfl⟩
  have HM := Lib.hid hm
  have HN := Lib.hid hn
  rw [hm, hn] at hs
  rw [hm] at HS1
  rw [hn] at HS2
  have i1 : IntKind.i64.wrap ((m : Int) + 1) = (m : Int) + 1 := IntWalk.i64_in _ (by omega)
  have i2 : IntKind.i64.wrap ((m : Int) + 1 + (n : Int)) = (m : Int) + 1 + (n : Int) := IntWalk.i64_in _ (by omega)
  clear hl hr hm hn
  go_enter Try.func94, Try.ntmps94
  go_wp2_with fail
  have c0d : w.drew.cell? ⟨b, 0, none⟩ = some (.string k) := c0
  have c1d : w.drew.cell? ⟨b, 1, none⟩ = some (.int .i64 v) := (hb.drew).cell 1
  go_region_held3 (fun w' => w'.cell? ⟨b, 0, none⟩ = some (.string k) ∧ w'.cell? ⟨b, 1, none⟩ = some (.int .i64 v)) (first | exact ⟨c0d, c1d⟩ | exact ⟨((hb.alloc _).drew).cell 0, ((hb.alloc _).drew).cell 1⟩) (first
    | (go_at_call 81
       (with_reducible refine HS1.out.mono ?_)
       clear HS1
       rintro _ wz ⟨rfl, hw0⟩
       replace hw0 := hw0.symm
       subst hw0)
    | (go_at_call 81
       (with_reducible refine HS2.out.mono ?_)
       clear HS2
       rintro _ wz ⟨rfl, hw0⟩
       replace hw0 := hw0.symm
       subst hw0)
    | fail)
  all_goals (
    go_wp2
    go_ret
    have hsz : ((l.size + 1 + r.size : Nat) : Int) = (m : Int) + 1 + (n : Int) := by rw [HM.out, HN.out]; omega
    refine ⟨_, rfl, ⟨w.heap.size, pl, pr, rfl, ?_, HL.out.keep ?_, HR.out.keep ?_⟩, ?_⟩
    · rw [hsz]
      exact (Blk.new w 138 _).drew
    · exact KeepN.of (((Below.refl _ w).alloc (Nat.le_refl _) _).drew)
    · exact KeepN.of (((Below.refl _ w).alloc (Nat.le_refl _) _).drew)
    · exact ((Below.refl _ w).alloc (Nat.le_refl _) _).drew)
end Go.Proofs.Ythcjbljkokflgaa.OI
