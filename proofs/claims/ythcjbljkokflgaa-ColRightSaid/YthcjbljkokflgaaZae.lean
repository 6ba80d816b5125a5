/- The ring of a collection's changes. -/
import Derived.Test.YthcjbljkokflgaaZad
import Derived.RangeFuncWrites
import Derived.RangeFuncBox
import Derived.Maps.AppendAt
import Derived.Laws.MakeOwn
import Derived.Test.YthcjbljkokflgaaZaa
import Derived.RangeFuncNested
import Derived.RangeFuncBound
import Derived.RangeFuncLeaves
import Derived.OrdersHeld
import Derived.Deep.RegionHeld
import Derived.OwnWalkIn
import Derived.TacticsInMore
import Derived.Deep.AppendLies
import Derived.Laws.AppendOwn
set_option linter.unnecessarySimpa false
/- Maps over trees (values: Int × ByteArray): Under and All as iterators; Keys. -/
namespace Go.Proofs.Ythcjbljkokflgaa.OC
open Go.RowKit
open Go.Lib
set_option linter.unusedVariables false
set_option linter.unusedSimpArgs false
set_option maxRecDepth 100000
open Go.Shelf
attribute [local go_sem] Oper.semAt_some
theorem KeepN.grown {W w1 : World} {base : Nat} {e : TypeId} {size : Nat} {v : Value} {k : Nat} {xs : List Value} (hrow : W.ownsRow base e size v k xs) (he : e ≠ 110) (hg : W.grownBy w1 v.ownBlock) : KeepN W w1 := fun b cs x => (hg.block b x.lt (fun eq => by
  rcases hrow.2 with ⟨rfl, _⟩ | ⟨g, cap, cur, rfl, _, hgb, _⟩
  · cases eq
  · obtain rfl : b = g := Option.some.inj eq
    unfold Blk at x
    rw [hgb] at x
    cases x
    exact he rfl)).trans x
theorem KeepN.put {w : World} (W : World) (l : Nat) (o o' : Obj) (_ : w.heap.size ≤ l) (h : W.heap[l]? = some o) (hc : o.isCells = false) (_ : o.isWalk = false) : KeepN W (W.putObj l o') := fun b cs x => (World.putObj_heap_other (fun e => by
  subst e
  unfold Blk at x
  rw [h] at x
  cases x
  cases hc)).trans x
set_option maxHeartbeats 4000000 in
theorem und_stops (n Bm Bx g : Nat) (t : T) (px : ByteArray) (hpx : px.size ≤ 1000000) (w : World) (hBm : Bm < w.heap.size) (hBx : Bx < w.heap.size) (cm : w.cell? ⟨Bm, 0, none⟩ = some (.pointer (some ⟨g, 0, none⟩))) (cx : w.cell? ⟨Bx, 0, none⟩ = some (.string px)) (hM : Mt w g t) (hks : ∀ q ∈ t.ino, q.1.size ≤ 1000000) :
    SeqStopsK Fence.wide n Try.prog 75 #[.pointer (some ⟨Bm, 0, none⟩), .pointer (some ⟨Bx, 0, none⟩)] enI KeepN (fun ys => ys = Tr.und px t) (fun pre => pre <+: Tr.und px t) (Tr.und px t).length w := fun l J Jx W hW hJ hJx hY h0 => by
  obtain ⟨p, hb, ht⟩ := hM.below hW
  have d0 : W.drew.cell? ⟨Bm, 0, none⟩ = some (.pointer (some ⟨g, 0, none⟩)) := (hW.cell (p := ⟨Bm, 0, none⟩) hBm).trans cm
  have d1 : W.drew.cell? ⟨Bx, 0, none⟩ = some (.string px) := (hW.cell (p := ⟨Bx, 0, none⟩) hBx).trans cx
  have d2 : W.drew.cell? ⟨g, 0, none⟩ = some (.pointer p) := hb.cell 0
  have hJd : J [] W.drew := hJ _ _ _ none h0 ⟨rfl, rfl, rfl, Nat.le_refl _, fun _ _ _ => rfl⟩ (fun r e => by cases e)
  have hp := under_in l (Tr.und px t).length W.heap.size J Jx hJ (fun m pre x W1 hj hl => YieldAt_anyDepth rfl m (hY pre x W1 hj hl)) px hpx t (n - 1) p [] W.drew (ht.keep (KeepN.drew W)) hks hJd (by simp)
  have hp2 := hp.mono (R' := fun e W' => ∃ bb, e = .returned (.bool bb) ∧ ((∃ ys, ys = Tr.und px t ∧ J ys W') ∨ (∃ pre, pre <+: Tr.und px t ∧ Jx pre W'))) (fun e W1 h => h.elim (fun ⟨he, hj, _⟩ => ⟨true, he, .inl ⟨_, rfl, by simpa using hj⟩⟩) (fun ⟨he, q, hq, hx⟩ => ⟨false, he, .inr ⟨q, hq, by simpa using hx⟩⟩))
  clear hp
  have hd : Fence.wide.depth = none := rfl
  have hall : ∀ f, Fence.wide.fn f := fun _ => trivial
  have hro : Fence.wide.round = none := rfl
  refine callsIn_of_wp Try.func75 rfl (hall _) ?_ hro
  simp only [Try.ntmps75, List.size_toArray, List.length_cons, List.length_nil, Nat.reduceAdd, Nat.reduceSub, Array.replicate_succ, Array.replicate_zero, List.push_toArray, List.append_toArray, List.nil_append, List.cons_append]
  gi_wp2
  gi_region_with (gi_at_call 76; refine hp2.mono ?_; clear hp2; rintro e W1 ⟨bb, rfl, hh⟩)
  all_goals (
    gi_wp2
    go_end0
    exact ⟨⟨_, rfl⟩, hh⟩)
theorem under_fn (g : Nat) (px : ByteArray) (w : World) : Calls Try.prog 61 #[.pointer (some ⟨g, 0, none⟩), .string px] w fun e w' => e = .returned (.func (.func 75) #[] #[.pointer (some ⟨w.heap.size, 0, none⟩), .pointer (some ⟨w.heap.size + 1, 0, none⟩)]) ∧ w' = (w.alloc (.cells #[.pointer (some ⟨g, 0, none⟩)] 65)).alloc (.cells #[.string px] 9) := by
  go_enter Try.func61, Try.ntmps61
  go_wp2
  go_ret
  exact ⟨rfl, rfl⟩
theorem all_fn (g : Nat) (w : World) : Calls Try.prog 47 #[.pointer (some ⟨g, 0, none⟩)] w fun e w' => e = .returned (.func (.func 75) #[] #[.pointer (some ⟨w.heap.size, 0, none⟩), .pointer (some ⟨w.heap.size + 1, 0, none⟩)]) ∧ w' = (w.alloc (.cells #[.pointer (some ⟨g, 0, none⟩)] 65)).alloc (.cells #[.string .empty] 9) := by
  have H := Lib.hid (under_fn g .empty w)
  go_enter Try.func47, Try.ntmps47
  go_wp2_with fail
  refine H.out.mono ?_
  rintro _ wz ⟨rfl, hw0⟩
  replace hw0 := hw0.symm
  subst hw0
  go_wp2
  go_ret
  exact ⟨rfl, rfl⟩
end Go.Proofs.Ythcjbljkokflgaa.OC
/- Boxes that a call holds: what stands in them while other calls come and go. -/
namespace Go.Proofs.Ythcjbljkokflgaa
open Go.RowKit
structure Bxs (w0 wr : World) (l : List (Nat × TypeId × Array Value)) : Prop where
  all : ∀ g t cs, (g, t, cs) ∈ l → Blk wr g t cs
  bel : Below w0.heap.size w0 wr
section
variable {w0 wr w' : World} {l : List (Nat × TypeId × Array Value)}
theorem Bxs.start (w : World) : Bxs w w [] := ⟨fun _ _ _ h => by simp at h, Below.refl _ _⟩
theorem Bxs.get (h : Bxs w0 wr l) (i : Nat) {g : Nat} {t : TypeId} {cs : Array Value} (e : l[i]? = some (g, t, cs)) : Blk wr g t cs := h.all g t cs (List.mem_of_getElem? e)
theorem Bxs.step (h : Bxs w0 wr l) (hb : Below wr.heap.size wr w') : Bxs w0 w' l := ⟨fun g t cs hm => (h.all g t cs hm).below hb (h.all g t cs hm).lt, h.bel.trans (hb.mono h.bel.size)⟩
theorem Bxs.new (h : Bxs w0 wr l) (t : TypeId) (cs : Array Value) : Bxs w0 (wr.alloc (.cells cs t)) (l ++ [(wr.heap.size, t, cs)]) :=
  ⟨fun g u ds hm => by
    rcases List.mem_append.1 hm with hm | hm
    · exact (h.all g u ds hm).alloc _
    · simp only [List.mem_singleton, Prod.mk.injEq] at hm
      obtain ⟨rfl, rfl, rfl⟩ := hm
      exact Blk.new _ _ _, h.bel.alloc h.bel.size _⟩
theorem Bxs.alloc (h : Bxs w0 wr l) (o : Obj) : Bxs w0 (wr.alloc o) l := ⟨fun g t cs hm => (h.all g t cs hm).alloc o, h.bel.alloc h.bel.size o⟩
theorem Bxs.drewN (h : Bxs w0 wr l) (n : Nat) : Bxs w0 (wr.drewN n) l := ⟨fun g t cs hm => (h.all g t cs hm).drewN n, below_drewN h.bel n⟩
theorem Bxs.drew (h : Bxs w0 wr l) : Bxs w0 wr.drew l := h.drewN 1
end
end Go.Proofs.Ythcjbljkokflgaa
/- Boxes that a call holds: the parameters' ones. -/
namespace Go.Proofs.Ythcjbljkokflgaa
open Go.RowKit
variable {w0 wr w' : World} {l : List (Nat × TypeId × Array Value)}
theorem Bxs.put (h : Bxs w0 wr l) (t : TypeId) (cs : Array Value) (g : Nat) (e : wr.heap.size = g) : Bxs w0 (wr.alloc (.cells cs t)) (l ++ [(g, t, cs)]) := e ▸ h.new t cs
theorem Bxs.two (w : World) (t u : TypeId) (a b : Array Value) : Bxs w ((w.alloc (.cells a t)).alloc (.cells b u)) [(w.heap.size, t, a), (w.heap.size + 1, u, b)] := ((Bxs.start w).new t a).put u b _ (by simp)
theorem Bxs.three (w : World) (t u v : TypeId) (a b c : Array Value) : Bxs w (((w.alloc (.cells a t)).alloc (.cells b u)).alloc (.cells c v)) [(w.heap.size, t, a), (w.heap.size + 1, u, b), (w.heap.size + 1 + 1, v, c)] := (Bxs.two w t u a b).put v c _ (by simp)
end Go.Proofs.Ythcjbljkokflgaa
/- A region in a round of a range over a function goes as anywhere; a load that the region itself writes over at its end. -/
namespace Go.Proofs.Ythcjbljkokflgaa
open Go.RowKit
set_option linter.unusedVariables false
section
variable {P : Program} {ops : Array Oper} {Q : Exit → Act → World → Prop} {md : Region.Mode}
theorem uponIn_of {l n : Nat} {o : Oper} {a : Act} {K : Act → World → Prop} {r : Result Next} (h : o.upon P a K Q r) : o.uponIn (Fence.wide.inRound l) n P a K Q r := by
  cases r with
  | ok x w' =>
    cases x <;> first
      | exact h
      | exact (h : False).elim
      | exact ⟨fun e => (by cases e), CallsIn.inRound l (callsIn_wide.2 h)⟩
      | exact ⟨fun e => (by cases e), fun c cs _ => (by
          obtain ⟨v, w2, h1, h2⟩ := h c cs
          exact ⟨v, w2, h1, stepsIn_wide.2 h2⟩)⟩
  | halt x w' => cases x <;> first | exact h | exact (h : False).elim
theorem wpOpIn_of {l n i : Nat} {K : Act → World → Prop} {a : Act} {w : World} (hno : ∀ (j : Nat) (o : Oper) (c : Call), ops[j]? = some o → o.op ≠ .defer c) (hQ : ¬ LetsOut Q) (h : wpOp P ops Q i K a w) : wpOpIn (Fence.wide.inRound l) n P ops Q i K a w := by
  unfold wpOp at h
  unfold wpOpIn
  cases ho : ops[i]? with
  | none => simp only [ho] at h ⊢; exact h
  | some o =>
    simp only [ho] at h ⊢
    by_cases hw : Region.wanted o (yielded ops a.tmps) = true
    · simp only [hw, if_true] at h ⊢
      rcases h with h | ⟨_, h⟩
      · refine ⟨fun _ _ => trivial, ?_⟩
        rw [Oper.semAt_eq _ _ _ (fun c => hno i o c ho)]
        exact uponIn_of h
      · exact absurd h hQ
    · simp only [hw, Bool.false_eq_true, if_false] at h ⊢
      exact ⟨fun _ _ => trivial, h⟩
theorem wpAnyIn_of {l n : Nat} (hno : ∀ (j : Nat) (o : Oper) (c : Call), ops[j]? = some o → o.op ≠ .defer c) (hQ : ¬ LetsOut Q) : ∀ (fuel : Nat) (listed : Array Bool) (a : Act) (w : World), wpAny P md ops Q fuel listed a w → wpAnyIn (Fence.wide.inRound l) n P md ops Q fuel listed a w
  | 0, _, _, _, h => h
  | fuel + 1, _, _, _, h => ⟨h.1, fun i hi => wpOpIn_of hno hQ (wpOp_mono (fun a w => wpAnyIn_of hno hQ fuel _ a w) (h.2 i hi))⟩
def noDefer (ops : Array Oper) : Bool := ops.all fun o => match o.op with | .defer _ => false | _ => true
theorem noDefer_spec (h : noDefer ops = true) (j : Nat) (o : Oper) (c : Call) (ho : ops[j]? = some o) : o.op ≠ .defer c := fun e => by
  have := Array.all_eq_true_iff_forall_mem.1 h o (Array.mem_of_getElem? ho)
  simp [e] at this
theorem wpIn_region_plain {l n id : Nat} {a : Act} {w : World} (hm : P.follows .mixedOrders = true) (hno : noDefer ops = true) (hQ : ¬ LetsOut Q)
    (h : wpAny P .any ops Q ops.size (Array.replicate ops.size false) a w.drew) : (Code.region id ops true).wpIn (Fence.wide.inRound l) n P Q a w :=
  wpIn_region_any hm (wpAnyIn_of (noDefer_spec hno) hQ _ _ _ _ h)
/-- What holds of the world as long as none of certain operations has come: (those operations, what holds). -/
abbrev Conds := List (List Nat × (World → Prop))
def open' (E : List Nat) (listed : Array Bool) : Bool := E.all fun j => !listed.getD j false
def Hold : Conds → Array Bool → World → Prop
  | [], _, _ => True
  | c :: cs, listed, w => (open' c.1 listed = true → c.2 w) ∧ Hold cs listed w
theorem Hold.get {cs : Conds} {listed : Array Bool} {w : World} {c : List Nat × (World → Prop)} (h : Hold cs listed w) (hc : c ∈ cs) (ho : open' c.1 listed = true) : c.2 w := by
  induction cs with
  | nil => cases hc
  | cons d cs ih =>
    rcases List.mem_cons.1 hc with rfl | hc
    · exact h.1 ho
    · exact ih h.2 hc
theorem getD_ne {listed : Array Bool} {i j : Nat} (d : Bool) (h : i ≠ j) : (listed.setIfInBounds i true).getD j d = listed.getD j d := by
  simp [Array.getElem?_setIfInBounds_ne h]
theorem open_ne {E : List Nat} {listed : Array Bool} {i : Nat} (h : i ∉ E) : open' E (listed.setIfInBounds i true) = open' E listed := by
  unfold open'
  rw [Bool.eq_iff_iff, List.all_eq_true, List.all_eq_true]
  constructor <;> intro k j hj
  · have := k j hj; rwa [getD_ne _ (fun e => h (by rw [e]; exact hj))] at this
  · rw [getD_ne _ (fun e => h (by rw [e]; exact hj))]; exact k j hj
theorem Hold.unset {i : Nat} {w : World} : ∀ {cs : Conds} {listed : Array Bool}, (∀ c ∈ cs, i ∉ c.1) → Hold cs (listed.setIfInBounds i true) w → Hold cs listed w
  | [], _, _, h => h
  | c :: cs, listed, hn, h => ⟨fun ho => h.1 (by rw [open_ne (hn c List.mem_cons_self)]; exact ho), Hold.unset (fun d hd => hn d (List.mem_cons_of_mem _ hd)) h.2⟩
/-- Whatever order comes; behind each operation holds what is to hold. -/
def wpAnyE (P : Program) (md : Region.Mode) (ops : Array Oper) (Q : Exit → Act → World → Prop) (cs : Conds) : Nat → Array Bool → Act → World → Prop
  | 0, listed, a, w => Region.ready md ops listed = [] ∧ Q .normal a w
  | fuel + 1, listed, a, w =>
    (Region.ready md ops listed = [] → Q .normal a w) ∧
    ∀ i ∈ Region.ready md ops listed, wpOp P ops Q i (fun a' w' => Hold cs (listed.setIfInBounds i true) w' ∧ wpAnyE P md ops Q cs fuel (listed.setIfInBounds i true) a' w') a w
variable {cs : Conds}
theorem wpAny_ofE : ∀ (fuel : Nat) (listed : Array Bool) (a : Act) (w : World), wpAnyE P md ops Q cs fuel listed a w → wpAny P md ops Q fuel listed a w
  | 0, _, _, _, h => h
  | fuel + 1, _, _, _, h => ⟨h.1, fun i hi => wpOp_mono (fun a' w' h' => wpAny_ofE fuel _ a' w' h'.2) (h.2 i hi)⟩
/-- Every operation of E waits for i. -/
def waitsFor (md : Region.Mode) (ops : Array Oper) (E : List Nat) (i : Nat) : Bool :=
  E.all fun j => match ops[j]? with | some o => o.after.any fun e => Region.binds md e && e.on == i | none => true
theorem waits {listed : Array Bool} {j g : Nat} {o : Oper} (ho : ops[j]? = some o) (h : (o.after.any fun e => Region.binds md e && e.on == g) = true) (hg : listed.getD g false = false) : j ∉ Region.ready md ops listed := fun hj => by
  obtain ⟨_, o', ho', hall⟩ := mem_ready.1 hj
  rw [ho] at ho'
  cases ho'
  obtain ⟨e, he, h2⟩ := Array.any_eq_true'.1 h
  rw [Bool.and_eq_true, beq_iff_eq] at h2
  have := hall e he h2.1
  rw [h2.2, hg] at this
  cases this
theorem Hold.set {i : Nat} {w : World} : ∀ {cs : Conds} {listed : Array Bool}, (∀ c ∈ cs, i ∉ c.1) → Hold cs listed w → Hold cs (listed.setIfInBounds i true) w
  | [], _, _, h => h
  | c :: cs, listed, hn, h => ⟨fun ho => h.1 (by rw [open_ne (hn c List.mem_cons_self)] at ho; exact ho), Hold.set (fun d hd => hn d (List.mem_cons_of_mem _ hd)) h.2⟩
theorem wpAnyE_first {i : Nat} {oi : Oper} {v : Value} (hi : ops[i]? = some oi) (hsel : ∀ (j : Nat) (o : Oper) cs b, ops[j]? = some o → o.op ≠ .select cs b)
    (hQ : ∀ c a w, Q (.panic c) (a.put oi.dst v) w → Q (.panic c) a w) (E : List Nat) (S : World → Prop) (hES : (E, S) ∈ cs ∨ ∀ w, S w) (hG : waitsFor md ops E i = true) (hiE : i ∉ E) (hic : ∀ c ∈ cs, i ∉ c.1) :
    ∀ (fuel : Nat) (listed : Array Bool) (a : Act) (w : World), open' E listed = true → listed.getD i false = false →
      (∀ j oj, ops[j]? = some oj → j ≠ i → listed.getD j true = false → (∀ e ∈ oj.after, Region.binds md e = true → e.on ≠ i) → oi.apart ops oj = true) →
      i ∈ Region.ready md ops listed → YieldsIf P ops S oi v a → Hold cs listed w →
      wpAnyE P md ops Q cs fuel (listed.setIfInBounds i true) (a.put oi.dst v) w → wpAnyE P md ops Q cs (fuel + 1) listed a w := by
  have hSw : ∀ (listed : Array Bool) (w : World), open' E listed = true → Hold cs listed w → S w := fun listed w ho h => hES.elim (fun hm => h.get hm ho) (fun h => h w)
  intro fuel
  induction fuel with
  | zero =>
    intro listed a w hop _ _ hr hy hS H
    refine ⟨fun h => (by rw [h] at hr; cases hr), fun j hj => ?_⟩
    by_cases hji : j = i
    · subst hji; exact hy.wpOp hi (hSw _ _ hop hS) ⟨Hold.set hic hS, H⟩
    · have := ready_mono hj hji
      rw [H.1] at this
      cases this
  | succ fuel ih =>
    intro listed a w hop hli hfree hr hy hS H
    refine ⟨fun h => (by rw [h] at hr; cases hr), fun j hj => ?_⟩
    by_cases hji : j = i
    · subst hji; exact hy.wpOp hi (hSw _ _ hop hS) ⟨Hold.set hic hS, H⟩
    · have hjE : j ∉ E := fun hjE => by
        have h1 := List.all_eq_true.1 hG j hjE
        obtain ⟨_, oj, hoj, _⟩ := mem_ready.1 hj
        rw [hoj] at h1
        exact waits hoj h1 hli hj
      have h1 := H.2 j (ready_mono hj hji)
      obtain ⟨hjun, oj, hoj, hall⟩ := mem_ready.1 hj
      have hnot : ∀ e ∈ oj.after, Region.binds md e = true → e.on ≠ i := fun e he hb heq => by
        have h1 := hall e he hb
        rw [heq, hli] at h1
        cases h1
      have h2 := wpOp_putIf hoj (hfree j oj hoj hji hjun hnot) (fun cs b => hsel i oi cs b hi) (fun cs b => hsel j oj cs b hoj) hQ hy h1
      refine wpOp_mono (fun a' w' h3 => ?_) h2
      have hS' : Hold cs (listed.setIfInBounds j true) w' := Hold.unset hic (by rw [Array.setIfInBounds_comm _ _ hji]; exact h3.2.1)
      refine ⟨hS', ih (listed.setIfInBounds j true) a' w' (by rw [open_ne hjE]; exact hop) (by rw [getD_ne _ hji]; exact hli) (fun k ok hk hki hun hno => ?_) (ready_mono hr (Ne.symm hji)) h3.1 hS' ?_⟩
      · refine hfree k ok hk hki ?_ hno
        by_cases hjk : j = k
        · subst hjk; exact hjun
        · rw [getD_set_ne true hjk] at hun; exact hun
      · rw [Array.setIfInBounds_comm _ _ hji]
        exact h3.2.2
def freeOf (cs : Conds) (i : Nat) : Bool := cs.all fun c => !c.1.contains i
theorem freeOf_spec {i : Nat} (h : freeOf cs i = true) (c : List Nat × (World → Prop)) (hc : c ∈ cs) : i ∉ c.1 := fun e => by
  have := List.all_eq_true.1 h c hc
  simp [e] at this
/-- A load, which what comes behind it may write over. -/
theorem wpAnyE_load {i : Nat} (E : List Nat) (S : World → Prop) {oi : Oper} {v : Value} {fuel : Nat} {listed : Array Bool} {a : Act} {w : World} (hi : ops[i]? = some oi) (hs : Region.noSelect ops = true) (hES : (E, S) ∈ cs) (hG : waitsFor md ops E i = true) (hl : (open' E listed && !listed.getD i false && !E.contains i && freeOf cs i) = true)
    (hf : Region.free md ops listed i = true) (hr : (Region.ready md ops listed).contains i = true) (hQ : ∀ c a w, Q (.panic c) (a.put oi.dst v) w → Q (.panic c) a w) (hy : YieldsIf P ops S oi v a) (hS : Hold cs listed w)
    (h : Hold cs (listed.setIfInBounds i true) w → wpAnyE P md ops Q cs fuel (listed.setIfInBounds i true) (a.put oi.dst v) w) : wpAnyE P md ops Q cs (fuel + 1) listed a w := by
  simp only [Bool.and_eq_true] at hl
  exact wpAnyE_first hi (Region.noSelect_spec hs) hQ E S (.inl hES) hG (by simpa using hl.1.2) (freeOf_spec hl.2) fuel listed a w hl.1.1.1 (by simpa using hl.1.1.2) (Region.free_spec hi hf) (by simpa using hr) hy hS (h (Hold.set (freeOf_spec hl.2) hS))
/-- What needs no memory. -/
theorem wpAnyE_take {i : Nat} {oi : Oper} {v : Value} {fuel : Nat} {listed : Array Bool} {a : Act} {w : World} (hi : ops[i]? = some oi) (hs : Region.noSelect ops = true) (hl : (!listed.getD i false && freeOf cs i) = true)
    (hf : Region.free md ops listed i = true) (hr : (Region.ready md ops listed).contains i = true) (hQ : ∀ c a w, Q (.panic c) (a.put oi.dst v) w → Q (.panic c) a w) (hy : YieldsIf P ops (fun _ => True) oi v a) (hS : Hold cs listed w)
    (h : Hold cs (listed.setIfInBounds i true) w → wpAnyE P md ops Q cs fuel (listed.setIfInBounds i true) (a.put oi.dst v) w) : wpAnyE P md ops Q cs (fuel + 1) listed a w := by
  simp only [Bool.and_eq_true] at hl
  exact wpAnyE_first hi (Region.noSelect_spec hs) hQ [] (fun _ => True) (.inr fun _ => trivial) rfl (by simp) (freeOf_spec hl.2) fuel listed a w rfl (by simpa using hl.1) (Region.free_spec hi hf) (by simpa using hr) hy hS (h (Hold.set (freeOf_spec hl.2) hS))
theorem wpAnyE_done {listed : Array Bool} {a : Act} {w : World} (hr : Region.ready md ops listed = []) (h : Q .normal a w) : ∀ fuel, wpAnyE P md ops Q cs fuel listed a w
  | 0 => ⟨hr, h⟩
  | _ + 1 => ⟨fun _ => h, by rw [hr]; simp⟩
def AllE (P : Program) (md : Region.Mode) (ops : Array Oper) (Q : Exit → Act → World → Prop) (cs : Conds) (fuel : Nat) (listed : Array Bool) (a : Act) (w : World) (rs : List Nat) : Prop :=
  ∀ i ∈ rs, wpOp P ops Q i (fun a' w' => Hold cs (listed.setIfInBounds i true) w' ∧ wpAnyE P md ops Q cs fuel (listed.setIfInBounds i true) a' w') a w
theorem AllE.nil {fuel : Nat} {listed : Array Bool} {a : Act} {w : World} : AllE P md ops Q cs fuel listed a w [] := fun _ h => by cases h
theorem AllE.cons {fuel : Nat} {listed : Array Bool} {a : Act} {w : World} {i : Nat} {o : Oper} {rs : List Nat} (ho : ops[i]? = some o)
    (h : ∀ K' : Act → World → Prop, Shut (∀ a w, Hold cs (listed.setIfInBounds i true) w → (Hold cs (listed.setIfInBounds i true) w → wpAnyE P md ops Q cs fuel (listed.setIfInBounds i true) a w) → K' a w) → if Region.wanted o (yielded ops a.tmps) = true then Oper.wp P o a w K' Q else K' (a.put o.dst undef) w)
    (hs : AllE P md ops Q cs fuel listed a w rs) : AllE P md ops Q cs fuel listed a w (i :: rs) := fun j hj => by
  rcases List.mem_cons.1 hj with rfl | hj
  · exact wpOp_step ho (fun K' hK => h K' (fun a w hS hW => hK a w ⟨hS, hW hS⟩))
  · exact hs j hj
theorem wpAnyE_ready {rs : List Nat} {fuel : Nat} {listed : Array Bool} {a : Act} {w : World} (hr : Region.ready md ops listed = rs) (hne : rs ≠ [])
    (h : AllE P md ops Q cs fuel listed a w rs) : wpAnyE P md ops Q cs (fuel + 1) listed a w := ⟨fun h0 => absurd (hr ▸ h0) hne, hr ▸ h⟩
/-- The post, where a region is shown to come to its end. -/
def Only (Q : Exit → Act → World → Prop) : Exit → Act → World → Prop
  | .normal, a, w => Q .normal a w
  | _, _, _ => False
theorem only_normal {a : Act} {w : World} (h : Q .normal a w) : Only Q .normal a w := h
theorem only_imp : ∀ (e : Exit) (a : Act) (w : World), Only Q e a w → Q e a w := fun e a w h => by
  cases e <;> first | exact h | exact (h : False).elim
theorem only_lets : ¬ LetsOut (Only Q) := fun ⟨_, _, h⟩ => h
/-- In a round. -/
theorem wpIn_region_E {l n id : Nat} {a : Act} {w : World} (cs : Conds) (hm : P.follows .mixedOrders = true) (hno : noDefer ops = true) (hS : Hold cs (Array.replicate ops.size false) w.drew)
    (h : Hold cs (Array.replicate ops.size false) w.drew → wpAnyE P .any ops (Only Q) cs ops.size (Array.replicate ops.size false) a w.drew) : (Code.region id ops true).wpIn (Fence.wide.inRound l) n P Q a w :=
  wpIn_mono (wpIn_region_plain hm hno only_lets (wpAny_ofE _ _ _ _ (h hS))) only_imp
/-- Anywhere else. -/
theorem wp_region_E {id : Nat} {a : Act} {w : World} (cs : Conds) (hm : P.follows .mixedOrders = true) (hS : Hold cs (Array.replicate ops.size false) w.drew)
    (h : Hold cs (Array.replicate ops.size false) w.drew → wpAnyE P .any ops (Only Q) cs ops.size (Array.replicate ops.size false) a w.drew) : (Code.region id ops true).wp P Q a w :=
  Code.wp_mono only_imp (wp_region_any hm (wpAny_ofE _ _ _ _ (h hS)))
/-- A range over a function, in a plain walk; it may break off; both ways out go on alike. -/
theorem range_plain {α : Type} {g : Operand} {ps : Array Tmp} {assign body : Code} {a : Act} {w : World} {gf : Nat} {lb : Array Value} (hg : a.eval g = .func (.func gf) #[] lb) (eg : ∀ args w, (callFunc gf args).run P w = .ok (.enter gf args) w)
    {encs : α → Array Value} {Kp : World → World → Prop} {S Sp : List α → Prop} {N : Nat} (hseq : SeqStopsK Fence.wide 5 P gf lb encs Kp S Sp N w)
    (hKt : ∀ {A B C : World}, Kp A B → Kp B C → Kp A C) (hKb : ∀ (W : World) (l : Nat) (o o' : Obj), w.heap.size ≤ l → W.heap[l]? = some o → o.isCells = false → o.isWalk = false → Kp W (W.putObj l o')) (hps : ∀ x, (encs x).size = ps.size)
    (I : List α → World → Prop) (Ix : Code → List α → World → Prop) (hI : OwnFrom w.heap.size I) (hIx : ∀ c, OwnFrom w.heap.size (Ix c)) (h0 : I [] w)
    (id : Nat) (After : World → Prop) (hS : ∀ xs W, S xs → I xs W → After W) (hX : ∀ c pre W, Sp pre → Ix c pre W → c = .exit id ∧ After W) (hQ : ∀ a w, Q .normal a w → Q (.exit id) a w) (a₁ : α → Act)
    (hassign : ∀ (l : Nat) (x : α) (W : World) (K : Act → World → Prop), K (a₁ x) W →
      assign.wpIn (Fence.wide.inRound l) 4 P (Exit.then K (fun _ _ _ => False)) { tmps := (ps.zip (encs x)).foldl (fun t (p, v) => t.setIfInBounds p v) a.tmps, defers := [] } W)
    (hbody : ∀ (l : Nat) (pre : List α) (x : α) (W : World), I pre W → pre.length < N → body.wpIn (Fence.wide.inRound l) 4 P (ownPostG w.heap.size Kp I Ix (pre ++ [x]) W) (a₁ x) W)
    (hrest : ∀ (D : Nat) (W : World), w.heap.size ≤ D → After W → W.heap[D]? = some (.deferred (some [])) → Q .normal { a with defers := { target := .collected D, args := #[] } :: a.defers } W) :
    (Code.rangeFunc g ps assign body).wp P Q a w :=
  (wpIn_wide (n := 6)).1 (wpIn_rangeFunc_ownG rfl (by decide) hg trivial eg hseq hKt hKb (Below.refl _ _) hps I Ix hI hIx h0 a₁ hassign hbody
    (fun D xs W hD hs hi hk => hrest D W hD (hS xs W hs hi) hk) (fun D c pre W hD hs hi hk => by
      obtain ⟨rfl, h⟩ := hX c pre W hs hi
      exact wpIn_exit (hQ _ _ (hrest D W hD h hk))))
theorem blk_own {A B : World} {row : Option Nat} {b : Nat} {t : TypeId} {cs : Array Value} (h : Blk A b t cs) (hg : A.grownBy B row) (hr : ∀ r, row = some r → ∃ o : Obj, A.heap[r]? = some o ∧ o.isCells = false) : Blk B b t cs := h.grown hg (fun e => by
  obtain ⟨o, ho, hc⟩ := hr b e.symm
  unfold Blk at h
  rw [h] at ho
  cases ho
  cases hc)
theorem row_own {A B : World} {row : Option Nat} {base n k : Nat} {e : TypeId} {v : Value} {xs : List Value} (h : A.ownsRow base e k v n xs) (hg : A.grownBy B row) (hr : ∀ r, row = some r → ∃ o : Obj, A.heap[r]? = some o ∧ o.isCells = false) : B.ownsRow base e k v n xs := by
  obtain ⟨h0, h3 | ⟨b, cap, cur, rfl, e2, e3, e4⟩⟩ := h
  · exact ⟨h0, .inl h3⟩
  · exact ⟨h0, .inr ⟨b, cap, cur, rfl, e2, blk_own e3 hg hr, e4⟩⟩
/-- What lies in a box of another type is as it was behind an append. -/
theorem blk_row {W W' : World} {b base n k : Nat} {t e : TypeId} {cs : Array Value} {v : Value} {xs : List Value} (h : Blk W b t cs) (hrow : W.ownsRow base e k v n xs) (hne : t ≠ e) (hg : W.grownBy W' v.ownBlock) : Blk W' b t cs := h.grown hg (fun eq => by
  rcases hrow.2 with ⟨rfl, _⟩ | ⟨g, cap, cur, rfl, _, hgb, _⟩
  · cases eq
  · obtain rfl : b = g := Option.some.inj eq
    unfold Blk at h
    rw [hgb] at h
    cases h
    exact hne rfl)
/-- A function that holds a range over a function, entered; it leaves with marks. -/
theorem calls_marks {f : FuncId} {fn : Func} {c : Code} {args : Array Value} {w : World} {R : Ending → World → Prop} (hf : P.funcs[f]? = some fn) (hb : fn.body = some c)
    (h : c.wp P (bodyPostM Fence.wide 6 P fn R) { tmps := args ++ Array.replicate (fn.ntmps - args.size) undef, defers := [] } w) : Calls P f args w R :=
  (callsIn_wide (n := 6)).1 (callsIn_of_wp_marks hf hb trivial (wpIn_wide.2 h) rfl)
end
end Go.Proofs.Ythcjbljkokflgaa
namespace Go.Proofs.Ythcjbljkokflgaa
open Go.RowKit
open Go.Lib
set_option linter.unusedVariables false
set_option linter.unusedSimpArgs false
set_option maxRecDepth 100000
abbrev Chg := Int × ByteArray
def chV (c : Chg) : List Value := [.int .i64 c.1, .string c.2]
def chC (l : List Chg) : List Value := (l.map chV).flatten
theorem chC_len (l : List Chg) : (chC l).length = l.length * 2 := by
  induction l with
  | nil => rfl
  | cons t xs ih => unfold chC at *; simp only [List.map_cons, List.flatten_cons, List.length_append, List.length_cons, ih]; simp [chV]; omega
theorem chC_snoc (l : List Chg) (x : Chg) : chC (l ++ [x]) = chC l ++ chV x := by unfold chC; simp
theorem chC_append (l m : List Chg) : chC (l ++ m) = chC l ++ chC m := by unfold chC; simp
theorem chC_get : ∀ (l : List Chg) (j : Nat) (x : Chg), l[j]? = some x → ∀ i, i < 2 → (chC l)[j * 2 + i]? = (chV x)[i]?
  | [], j, t, h => by simp at h
  | y :: xs, 0, t, h => fun i hi => by
    simp at h; subst h
    have hl : (chV y).length = 2 := rfl
    show ((chV y) ++ chC xs)[0 * 2 + i]? = _
    rw [Nat.zero_mul, Nat.zero_add, List.getElem?_append_left (by omega)]
  | y :: xs, j + 1, t, h => fun i hi => by
    have hl : (chV y).length = 2 := rfl
    show ((chV y) ++ chC xs)[(j + 1) * 2 + i]? = _
    rw [List.getElem?_append_right (by omega), hl, show (j + 1) * 2 + i - 2 = j * 2 + i by omega]
    exact chC_get xs j t (by simpa using h) i hi
theorem chC_set : ∀ (l : List Chg) (j : Nat) (x : Chg), j < l.length → chC (l.set j x) = ((chC l).set (j * 2) (.int .i64 x.1)).set (j * 2 + 1) (.string x.2)
  | [], j, x, h => by simp at h
  | y :: xs, 0, x, h => rfl
  | y :: xs, j + 1, x, h => by
    have e := chC_set xs j x (by simpa using h)
    show chV y ++ chC (xs.set j x) = ((chV y ++ chC xs).set ((j + 1) * 2) (.int .i64 x.1)).set ((j + 1) * 2 + 1) (.string x.2)
    have hl : (chV y).length = 2 := rfl
    rw [e, List.set_append_right _ _ (by omega), List.set_append_right _ _ (by omega), hl, show (j + 1) * 2 - 2 = j * 2 by omega, show (j + 1) * 2 + 1 - 2 = j * 2 + 1 by omega]
/-- What calls leave: all below B, and whatever is of another kind than T's. -/
structure Kc (T : TypeId → Prop) (B : Nat) (w w' : World) : Prop where
  os : w'.os = w.os
  tape : w'.tape = w.tape
  output : w'.output = w.output
  size : w.heap.size ≤ w'.heap.size
  low : ∀ j, j < B → w'.heap[j]? = w.heap[j]?
  far : ∀ j t cs, Blk w j t cs → ¬ T t → Blk w' j t cs
theorem Kc.refl (T : TypeId → Prop) (B : Nat) (w : World) : Kc T B w w := ⟨rfl, rfl, rfl, Nat.le_refl _, fun _ _ => rfl, fun _ _ _ h _ => h⟩
section
variable {T : TypeId → Prop} {B : Nat}
theorem Kc.of {w w' : World} (h : Below w.heap.size w w') (hB : B ≤ w.heap.size) : Kc T B w w' := ⟨h.os, h.tape, h.output, h.size, fun j hj => h.block j (by omega), fun j t cs hb _ => hb.below h hb.lt⟩
theorem Kc.trans {a b c : World} (h : Kc T B a b) (k : Kc T B b c) : Kc T B a c :=
  ⟨k.os.trans h.os, k.tape.trans h.tape, k.output.trans h.output, Nat.le_trans h.size k.size, fun j hj => (k.low j hj).trans (h.low j hj), fun j t cs hb h1 => k.far j t cs (h.far j t cs hb h1) h1⟩
theorem Kc.wide {T' : TypeId → Prop} {w w' : World} (h : Kc T B w w') (hT : ∀ t, T t → T' t) : Kc T' B w w' := ⟨h.os, h.tape, h.output, h.size, h.low, fun j t cs hb h1 => h.far j t cs hb (fun e => h1 (hT t e))⟩
theorem Kc.below {w w' : World} (h : Kc T B w w') : Below B w w' := ⟨h.os, h.tape, h.output, h.size, h.low⟩
theorem Kc.drew {w w' : World} (h : Kc T B w w') : Kc T B w w'.drew := ⟨h.os, h.tape, h.output, h.size, h.low, h.far⟩
theorem Kc.drewN {w w' : World} (h : Kc T B w w') (n : Nat) : Kc T B w (w'.drewN n) := ⟨h.os, h.tape, h.output, h.size, h.low, h.far⟩
theorem Kc.alloc {w w' : World} (h : Kc T B w w') (hB : B ≤ w.heap.size) (o : Obj) : Kc T B w (w'.alloc o) := h.trans (Kc.of ((Below.refl _ _).alloc (Nat.le_refl _) _) (Nat.le_trans hB h.size))
/-- A store into one of its own. -/
theorem Kc.set {w w' : World} (h : Kc T B w w') {g : Nat} {t : TypeId} {cs : Array Value} (hb : Blk w' g t cs) (ht : T t) (hg : B ≤ g) (i : Nat) (u : Value) : Kc T B w (w'.setCell ⟨g, i, none⟩ u) :=
  h.trans ⟨rfl, rfl, rfl, by simp [World.setCell], fun j hj => Below.heap_setCell w' ⟨g, i, none⟩ u j (by show j ≠ g; omega), fun j t' cs' hb' h1 => (Below.heap_setCell w' ⟨g, i, none⟩ u j (by
    show j ≠ g
    rintro rfl
    unfold Blk at hb hb'
    rw [hb] at hb'
    cases hb'
    exact h1 ht)).trans hb'⟩
/-- A store into a block made since. -/
theorem Kc.setNew {w w' : World} (h : Kc T B w w') (hB : B ≤ w.heap.size) {g : Nat} (hg : w.heap.size ≤ g) (i : Nat) (u : Value) : Kc T B w (w'.setCell ⟨g, i, none⟩ u) :=
  ⟨h.os, h.tape, h.output, by simpa [World.setCell] using h.size, fun j hj => (Below.heap_setCell w' ⟨g, i, none⟩ u j (by show j ≠ g; omega)).trans (h.low j hj), fun j t cs hb h1 => (Below.heap_setCell w' ⟨g, i, none⟩ u j (by show j ≠ g; have := hb.lt; omega)).trans (h.far j t cs hb h1)⟩
end
/-- The row has grown. -/
theorem Kc.grown {T : TypeId → Prop} {B : Nat} {w w' w2 : World} (h : Kc T B w w') (hB : B ≤ w'.heap.size) {e : TypeId} {k n : Nat} {v : Value} {vs : List Value} (hr : w'.ownsRow B e k v n vs) (hT : T e) (hg : w'.grownBy w2 v.ownBlock) : Kc T B w w2 :=
  h.trans ⟨hg.os, hg.tape, hg.output, hg.size, fun j hj => hg.block j (by omega) (fun e => by have := (hr.lt j e.symm).1; omega), fun j t cs hb h1 => (hg.block j hb.lt (fun e0 => by
    obtain ⟨h0, h3' | ⟨b, cap, cur, e1, e2, e3, e4⟩⟩ := hr
    · rw [h3'.1] at e0; cases e0
    · rw [e1] at e0
      cases e0
      unfold Blk at hb
      have e5 : w'.heap[b]? = some (.cells cur e (0, 0)) := e3
      rw [e5] at hb
      cases hb
      exact h1 hT)).trans hb⟩
/-- A row of another kind stays. -/
theorem Kc.row {T : TypeId → Prop} {B B' : Nat} {w w' : World} (h : Kc T B w w') {e : TypeId} {k n : Nat} {v : Value} {vs : List Value} (hr : w.ownsRow B' e k v n vs) (hT : ¬ T e) : w'.ownsRow B' e k v n vs := by
  obtain ⟨h0, h3 | ⟨b, cap, cur, e1, e2, e3, e4⟩⟩ := hr
  · exact ⟨h0, .inl h3⟩
  · exact ⟨h0, .inr ⟨b, cap, cur, e1, e2, h.far b e cur e3 hT, e4⟩⟩
theorem own_keep {w w' : World} {base : Nat} {e : TypeId} {k n : Nat} {v : Value} {vs : List Value} (h : w.ownsRow base e k v n vs) (hb : ∀ j, v.ownBlock = some j → w'.heap[j]? = w.heap[j]?) : w'.ownsRow base e k v n vs := by
  obtain ⟨h0, h3 | ⟨b, cap, cur, e1, e2, e3, e4⟩⟩ := h
  · exact ⟨h0, .inl h3⟩
  · refine ⟨h0, .inr ⟨b, cap, cur, e1, e2, (hb b (by rw [e1]; rfl)).trans e3, e4⟩⟩
/-- A row of changes, read. -/
theorem own_ch {w : World} {B : Nat} {v : Value} {l : List Chg} (h : w.ownsRow B 72 2 v l.length (chC l)) : ∃ A cap b, v = .slice A l.length cap ∧ l.length ≤ cap ∧ (0 < l.length → A = some ⟨b, 0, none⟩ ∧ B ≤ b ∧ b < w.heap.size) ∧ ∀ (j : Nat) (x : Chg), l[j]? = some x → w.cell? ⟨b, j * 2, none⟩ = some (.int .i64 x.1) ∧ w.cell? ⟨b, j * 2 + 1, none⟩ = some (.string x.2) ∧ w.frozen? ⟨b, j * 2, none⟩ = false ∧ w.frozen? ⟨b, j * 2 + 1, none⟩ = false := by
  have h0 := h
  obtain ⟨h1, ⟨rfl, h2⟩ | ⟨g, cap, cur, rfl, hg, hh, hc, hm, hcs, ht⟩⟩ := h
  · have : l = [] := List.length_eq_zero_iff.1 h2
    subst this
    exact ⟨none, 0, 0, rfl, Nat.le_refl _, fun h => absurd h (by simp), fun j t hj => by simp at hj⟩
  · refine ⟨some ⟨g, 0, none⟩, cap, g, rfl, hc, fun _ => ⟨rfl, (h0.lt g rfl).1, Blk.lt hh⟩, fun j t hj => ?_⟩
    have hjl : j < l.length := (List.getElem?_eq_some_iff.1 hj).1
    have hB : Blk w g 72 cur := hh
    have key : ∀ i, i < 2 → w.cell? ⟨g, j * 2 + i, none⟩ = (chV t)[i]? := fun i hi => by
      rw [cell_of_row w g _ cur _ (0, 0) hh, ← chC_get l j t hj i hi, ← ht, List.getElem?_take, if_pos (by omega), Array.getElem?_toList]
    exact ⟨key 0 (by omega), key 1 (by omega), hB.frozen _, hB.frozen _⟩
/-- One change written over another. -/
theorem own_set {w : World} {B g cap : Nat} {l : List Chg} (h : w.ownsRow B 72 2 (.slice (some ⟨g, 0, none⟩) l.length cap) l.length (chC l)) (j : Nat) (hj : j < l.length) (x : Chg) :
    ((w.setCell ⟨g, j * 2, none⟩ (.int .i64 x.1)).setCell ⟨g, j * 2 + 1, none⟩ (.string x.2)).ownsRow B 72 2 (.slice (some ⟨g, 0, none⟩) l.length cap) l.length (chC (l.set j x)) := by
  obtain ⟨h0, h3 | ⟨b, cap', cur, e1, e2, e3, e4, e5, e6, e7⟩⟩ := h
  · exact absurd h3.2 (by omega)
  · cases e1
    have hB : Blk w g 72 cur := e3
    have hB2 := (hB.set_ (j * 2) (.int .i64 x.1)).set_ (j * 2 + 1) (.string x.2)
    refine ⟨by rw [chC_len, List.length_set], .inr ⟨g, cap, _, rfl, e2, hB2, e4, e5, ?_, ?_⟩⟩
    · simp; exact e6
    · rw [chC_set l j x hj, ← e7]
      simp only [Array.toList_setIfInBounds, List.take_set, List.length_set]
end Go.Proofs.Ythcjbljkokflgaa
