/- strings.Lines: the lines of a text, and its iterator's contract. -/
import Derived.Test.YtphijnkiiokieaaGreatDoorZaa
import Derived.RangeFuncNested
import Derived.RangeFuncBound
import Derived.RangeFuncLeaves
import Derived.OrdersHeld
import Derived.Deep.RegionHeld
import Derived.OwnWalkIn
import Derived.TacticsInMore
import Derived.Test.YtphijnkiiokieaaGreatDoorProg
import Derived.Lib.Hide
import Derived.Shelf.Abstract
import Derived.Lib.IndexLaws
import Derived.LoopNIn
import Derived.LoopIn
/- A region in a round of a range over a function goes as anywhere; a load that the region itself writes over at its end. -/
namespace Go.Proofs.YtphijnkiiokieaaGreatDoor
open Go.RowKit
set_option linter.unusedVariables false
section
variable {P : Program} {ops : Array Oper} {Q : Exit → Act → World → Prop} {md : Region.Mode}
theorem uponIn_of {l n : Nat} {o : Oper} {a : Act} {K : Act → World → Prop} {r : Result Next} (h : o.upon P a K Q r) : o.uponIn (Fence.wide.inRound l) n P a K Q r := by
  cases r with
  | ok x w' =>
    cases x <;> first
      | exact h
      | exact (h : False).elim
      | exact ⟨fun e => (by cases e), CallsIn.inRound l (callsIn_wide.2 h)⟩
      | exact ⟨fun e => (by cases e), fun c cs _ => (by
          obtain ⟨v, w2, h1, h2⟩ := h c cs
          exact ⟨v, w2, h1, stepsIn_wide.2 h2⟩)⟩
  | halt x w' => cases x <;> first | exact h | exact (h : False).elim
theorem wpOpIn_of {l n i : Nat} {K : Act → World → Prop} {a : Act} {w : World} (hno : ∀ (j : Nat) (o : Oper) (c : Call), ops[j]? = some o → o.op ≠ .defer c) (hQ : ¬ LetsOut Q) (h : wpOp P ops Q i K a w) : wpOpIn (Fence.wide.inRound l) n P ops Q i K a w := by
  unfold wpOp at h
  unfold wpOpIn
  cases ho : ops[i]? with
  | none => simp only [ho] at h ⊢; exact h
  | some o =>
    simp only [ho] at h ⊢
    by_cases hw : Region.wanted o (yielded ops a.tmps) = true
    · simp only [hw, if_true] at h ⊢
      rcases h with h | ⟨_, h⟩
      · refine ⟨fun _ _ => trivial, ?_⟩
        rw [Oper.semAt_eq _ _ _ (fun c => hno i o c ho)]
        exact uponIn_of h
      · exact absurd h hQ
    · simp only [hw, Bool.false_eq_true, if_false] at h ⊢
      exact ⟨fun _ _ => trivial, h⟩
theorem wpAnyIn_of {l n : Nat} (hno : ∀ (j : Nat) (o : Oper) (c : Call), ops[j]? = some o → o.op ≠ .defer c) (hQ : ¬ LetsOut Q) : ∀ (fuel : Nat) (listed : Array Bool) (a : Act) (w : World), wpAny P md ops Q fuel listed a w → wpAnyIn (Fence.wide.inRound l) n P md ops Q fuel listed a w
  | 0, _, _, _, h => h
  | fuel + 1, _, _, _, h => ⟨h.1, fun i hi => wpOpIn_of hno hQ (wpOp_mono (fun a w => wpAnyIn_of hno hQ fuel _ a w) (h.2 i hi))⟩
def noDefer (ops : Array Oper) : Bool := ops.all fun o => match o.op with | .defer _ => false | _ => true
theorem noDefer_spec (h : noDefer ops = true) (j : Nat) (o : Oper) (c : Call) (ho : ops[j]? = some o) : o.op ≠ .defer c := fun e => by
  have := Array.all_eq_true_iff_forall_mem.1 h o (Array.mem_of_getElem? ho)
  simp [e] at this
theorem wpIn_region_plain {l n id : Nat} {a : Act} {w : World} (hm : P.follows .mixedOrders = true) (hno : noDefer ops = true) (hQ : ¬ LetsOut Q)
    (h : wpAny P .any ops Q ops.size (Array.replicate ops.size false) a w.drew) : (Code.region id ops true).wpIn (Fence.wide.inRound l) n P Q a w :=
  wpIn_region_any hm (wpAnyIn_of (noDefer_spec hno) hQ _ _ _ _ h)
/-- What holds of the world as long as none of certain operations has come: (those operations, what holds). -/
abbrev Conds := List (List Nat × (World → Prop))
def open' (E : List Nat) (listed : Array Bool) : Bool := E.all fun j => !listed.getD j false
def Hold : Conds → Array Bool → World → Prop
  | [], _, _ => True
  | c :: cs, listed, w => (open' c.1 listed = true → c.2 w) ∧ Hold cs listed w
theorem Hold.get {cs : Conds} {listed : Array Bool} {w : World} {c : List Nat × (World → Prop)} (h : Hold cs listed w) (hc : c ∈ cs) (ho : open' c.1 listed = true) : c.2 w := by
  induction cs with
  | nil => cases hc
  | cons d cs ih =>
    rcases List.mem_cons.1 hc with rfl | hc
    · exact h.1 ho
    · exact ih h.2 hc
theorem getD_ne {listed : Array Bool} {i j : Nat} (d : Bool) (h : i ≠ j) : (listed.setIfInBounds i true).getD j d = listed.getD j d := by
  simp [Array.getElem?_setIfInBounds_ne h]
theorem open_ne {E : List Nat} {listed : Array Bool} {i : Nat} (h : i ∉ E) : open' E (listed.setIfInBounds i true) = open' E listed := by
  unfold open'
  rw [Bool.eq_iff_iff, List.all_eq_true, List.all_eq_true]
  constructor <;> intro k j hj
  · have := k j hj; rwa [getD_ne _ (fun e => h (by rw [e]; exact hj))] at this
  · rw [getD_ne _ (fun e => h (by rw [e]; exact hj))]; exact k j hj
theorem Hold.unset {i : Nat} {w : World} : ∀ {cs : Conds} {listed : Array Bool}, (∀ c ∈ cs, i ∉ c.1) → Hold cs (listed.setIfInBounds i true) w → Hold cs listed w
  | [], _, _, h => h
  | c :: cs, listed, hn, h => ⟨fun ho => h.1 (by rw [open_ne (hn c List.mem_cons_self)]; exact ho), Hold.unset (fun d hd => hn d (List.mem_cons_of_mem _ hd)) h.2⟩
/-- Whatever order comes; behind each operation holds what is to hold. -/
def wpAnyE (P : Program) (md : Region.Mode) (ops : Array Oper) (Q : Exit → Act → World → Prop) (cs : Conds) : Nat → Array Bool → Act → World → Prop
  | 0, listed, a, w => Region.ready md ops listed = [] ∧ Q .normal a w
  | fuel + 1, listed, a, w =>
    (Region.ready md ops listed = [] → Q .normal a w) ∧
    ∀ i ∈ Region.ready md ops listed, wpOp P ops Q i (fun a' w' => Hold cs (listed.setIfInBounds i true) w' ∧ wpAnyE P md ops Q cs fuel (listed.setIfInBounds i true) a' w') a w
variable {cs : Conds}
theorem wpAny_ofE : ∀ (fuel : Nat) (listed : Array Bool) (a : Act) (w : World), wpAnyE P md ops Q cs fuel listed a w → wpAny P md ops Q fuel listed a w
  | 0, _, _, _, h => h
  | fuel + 1, _, _, _, h => ⟨h.1, fun i hi => wpOp_mono (fun a' w' h' => wpAny_ofE fuel _ a' w' h'.2) (h.2 i hi)⟩
/-- Every operation of E waits for i. -/
def waitsFor (md : Region.Mode) (ops : Array Oper) (E : List Nat) (i : Nat) : Bool :=
  E.all fun j => match ops[j]? with | some o => o.after.any fun e => Region.binds md e && e.on == i | none => true
theorem waits {listed : Array Bool} {j g : Nat} {o : Oper} (ho : ops[j]? = some o) (h : (o.after.any fun e => Region.binds md e && e.on == g) = true) (hg : listed.getD g false = false) : j ∉ Region.ready md ops listed := fun hj => by
  obtain ⟨_, o', ho', hall⟩ := mem_ready.1 hj
  rw [ho] at ho'
  cases ho'
  obtain ⟨e, he, h2⟩ := Array.any_eq_true'.1 h
  rw [Bool.and_eq_true, beq_iff_eq] at h2
  have := hall e he h2.1
  rw [h2.2, hg] at this
  cases this
theorem Hold.set {i : Nat} {w : World} : ∀ {cs : Conds} {listed : Array Bool}, (∀ c ∈ cs, i ∉ c.1) → Hold cs listed w → Hold cs (listed.setIfInBounds i true) w
  | [], _, _, h => h
  | c :: cs, listed, hn, h => ⟨fun ho => h.1 (by rw [open_ne (hn c List.mem_cons_self)] at ho; exact ho), Hold.set (fun d hd => hn d (List.mem_cons_of_mem _ hd)) h.2⟩
theorem wpAnyE_first {i : Nat} {oi : Oper} {v : Value} (hi : ops[i]? = some oi) (hsel : ∀ (j : Nat) (o : Oper) cs b, ops[j]? = some o → o.op ≠ .select cs b)
    (hQ : ∀ c a w, Q (.panic c) (a.put oi.dst v) w → Q (.panic c) a w) (E : List Nat) (S : World → Prop) (hES : (E, S) ∈ cs ∨ ∀ w, S w) (hG : waitsFor md ops E i = true) (hiE : i ∉ E) (hic : ∀ c ∈ cs, i ∉ c.1) :
    ∀ (fuel : Nat) (listed : Array Bool) (a : Act) (w : World), open' E listed = true → listed.getD i false = false →
      (∀ j oj, ops[j]? = some oj → j ≠ i → listed.getD j true = false → (∀ e ∈ oj.after, Region.binds md e = true → e.on ≠ i) → oi.apart ops oj = true) →
      i ∈ Region.ready md ops listed → YieldsIf P ops S oi v a → Hold cs listed w →
      wpAnyE P md ops Q cs fuel (listed.setIfInBounds i true) (a.put oi.dst v) w → wpAnyE P md ops Q cs (fuel + 1) listed a w := by
  have hSw : ∀ (listed : Array Bool) (w : World), open' E listed = true → Hold cs listed w → S w := fun listed w ho h => hES.elim (fun hm => h.get hm ho) (fun h => h w)
  intro fuel
  induction fuel with
  | zero =>
    intro listed a w hop _ _ hr hy hS H
    refine ⟨fun h => (by rw [h] at hr; cases hr), fun j hj => ?_⟩
    by_cases hji : j = i
    · subst hji; exact hy.wpOp hi (hSw _ _ hop hS) ⟨Hold.set hic hS, H⟩
    · have := ready_mono hj hji
      rw [H.1] at this
      cases this
  | succ fuel ih =>
    intro listed a w hop hli hfree hr hy hS H
    refine ⟨fun h => (by rw [h] at hr; cases hr), fun j hj => ?_⟩
    by_cases hji : j = i
    · subst hji; exact hy.wpOp hi (hSw _ _ hop hS) ⟨Hold.set hic hS, H⟩
    · have hjE : j ∉ E := fun hjE => by
        have h1 := List.all_eq_true.1 hG j hjE
        obtain ⟨_, oj, hoj, _⟩ := mem_ready.1 hj
        rw [hoj] at h1
        exact waits hoj h1 hli hj
      have h1 := H.2 j (ready_mono hj hji)
      obtain ⟨hjun, oj, hoj, hall⟩ := mem_ready.1 hj
      have hnot : ∀ e ∈ oj.after, Region.binds md e = true → e.on ≠ i := fun e he hb heq => by
        have h1 := hall e he hb
        rw [heq, hli] at h1
        cases h1
      have h2 := wpOp_putIf hoj (hfree j oj hoj hji hjun hnot) (fun cs b => hsel i oi cs b hi) (fun cs b => hsel j oj cs b hoj) hQ hy h1
      refine wpOp_mono (fun a' w' h3 => ?_) h2
      have hS' : Hold cs (listed.setIfInBounds j true) w' := Hold.unset hic (by rw [Array.setIfInBounds_comm _ _ hji]; exact h3.2.1)
      refine ⟨hS', ih (listed.setIfInBounds j true) a' w' (by rw [open_ne hjE]; exact hop) (by rw [getD_ne _ hji]; exact hli) (fun k ok hk hki hun hno => ?_) (ready_mono hr (Ne.symm hji)) h3.1 hS' ?_⟩
      · refine hfree k ok hk hki ?_ hno
        by_cases hjk : j = k
        · subst hjk; exact hjun
        · rw [getD_set_ne true hjk] at hun; exact hun
      · rw [Array.setIfInBounds_comm _ _ hji]
        exact h3.2.2
def freeOf (cs : Conds) (i : Nat) : Bool := cs.all fun c => !c.1.contains i
theorem freeOf_spec {i : Nat} (h : freeOf cs i = true) (c : List Nat × (World → Prop)) (hc : c ∈ cs) : i ∉ c.1 := fun e => by
  have := List.all_eq_true.1 h c hc
  simp [e] at this
/-- A load, which what comes behind it may write over. -/
theorem wpAnyE_load {i : Nat} (E : List Nat) (S : World → Prop) {oi : Oper} {v : Value} {fuel : Nat} {listed : Array Bool} {a : Act} {w : World} (hi : ops[i]? = some oi) (hs : Region.noSelect ops = true) (hES : (E, S) ∈ cs) (hG : waitsFor md ops E i = true) (hl : (open' E listed && !listed.getD i false && !E.contains i && freeOf cs i) = true)
    (hf : Region.free md ops listed i = true) (hr : (Region.ready md ops listed).contains i = true) (hQ : ∀ c a w, Q (.panic c) (a.put oi.dst v) w → Q (.panic c) a w) (hy : YieldsIf P ops S oi v a) (hS : Hold cs listed w)
    (h : Hold cs (listed.setIfInBounds i true) w → wpAnyE P md ops Q cs fuel (listed.setIfInBounds i true) (a.put oi.dst v) w) : wpAnyE P md ops Q cs (fuel + 1) listed a w := by
  simp only [Bool.and_eq_true] at hl
  exact wpAnyE_first hi (Region.noSelect_spec hs) hQ E S (.inl hES) hG (by simpa using hl.1.2) (freeOf_spec hl.2) fuel listed a w hl.1.1.1 (by simpa using hl.1.1.2) (Region.free_spec hi hf) (by simpa using hr) hy hS (h (Hold.set (freeOf_spec hl.2) hS))
/-- What needs no memory. -/
theorem wpAnyE_take {i : Nat} {oi : Oper} {v : Value} {fuel : Nat} {listed : Array Bool} {a : Act} {w : World} (hi : ops[i]? = some oi) (hs : Region.noSelect ops = true) (hl : (!listed.getD i false && freeOf cs i) = true)
    (hf : Region.free md ops listed i = true) (hr : (Region.ready md ops listed).contains i = true) (hQ : ∀ c a w, Q (.panic c) (a.put oi.dst v) w → Q (.panic c) a w) (hy : YieldsIf P ops (fun _ => True) oi v a) (hS : Hold cs listed w)
    (h : Hold cs (listed.setIfInBounds i true) w → wpAnyE P md ops Q cs fuel (listed.setIfInBounds i true) (a.put oi.dst v) w) : wpAnyE P md ops Q cs (fuel + 1) listed a w := by
  simp only [Bool.and_eq_true] at hl
  exact wpAnyE_first hi (Region.noSelect_spec hs) hQ [] (fun _ => True) (.inr fun _ => trivial) rfl (by simp) (freeOf_spec hl.2) fuel listed a w rfl (by simpa using hl.1) (Region.free_spec hi hf) (by simpa using hr) hy hS (h (Hold.set (freeOf_spec hl.2) hS))
theorem wpAnyE_done {listed : Array Bool} {a : Act} {w : World} (hr : Region.ready md ops listed = []) (h : Q .normal a w) : ∀ fuel, wpAnyE P md ops Q cs fuel listed a w
  | 0 => ⟨hr, h⟩
  | _ + 1 => ⟨fun _ => h, by rw [hr]; simp⟩
def AllE (P : Program) (md : Region.Mode) (ops : Array Oper) (Q : Exit → Act → World → Prop) (cs : Conds) (fuel : Nat) (listed : Array Bool) (a : Act) (w : World) (rs : List Nat) : Prop :=
  ∀ i ∈ rs, wpOp P ops Q i (fun a' w' => Hold cs (listed.setIfInBounds i true) w' ∧ wpAnyE P md ops Q cs fuel (listed.setIfInBounds i true) a' w') a w
theorem AllE.nil {fuel : Nat} {listed : Array Bool} {a : Act} {w : World} : AllE P md ops Q cs fuel listed a w [] := fun _ h => by cases h
theorem AllE.cons {fuel : Nat} {listed : Array Bool} {a : Act} {w : World} {i : Nat} {o : Oper} {rs : List Nat} (ho : ops[i]? = some o)
    (h : ∀ K' : Act → World → Prop, Shut (∀ a w, Hold cs (listed.setIfInBounds i true) w → (Hold cs (listed.setIfInBounds i true) w → wpAnyE P md ops Q cs fuel (listed.setIfInBounds i true) a w) → K' a w) → if Region.wanted o (yielded ops a.tmps) = true then Oper.wp P o a w K' Q else K' (a.put o.dst undef) w)
    (hs : AllE P md ops Q cs fuel listed a w rs) : AllE P md ops Q cs fuel listed a w (i :: rs) := fun j hj => by
  rcases List.mem_cons.1 hj with rfl | hj
  · exact wpOp_step ho (fun K' hK => h K' (fun a w hS hW => hK a w ⟨hS, hW hS⟩))
  · exact hs j hj
theorem wpAnyE_ready {rs : List Nat} {fuel : Nat} {listed : Array Bool} {a : Act} {w : World} (hr : Region.ready md ops listed = rs) (hne : rs ≠ [])
    (h : AllE P md ops Q cs fuel listed a w rs) : wpAnyE P md ops Q cs (fuel + 1) listed a w := ⟨fun h0 => absurd (hr ▸ h0) hne, hr ▸ h⟩
/-- The post, where a region is shown to come to its end. -/
def Only (Q : Exit → Act → World → Prop) : Exit → Act → World → Prop
  | .normal, a, w => Q .normal a w
  | _, _, _ => False
theorem only_normal {a : Act} {w : World} (h : Q .normal a w) : Only Q .normal a w := h
theorem only_imp : ∀ (e : Exit) (a : Act) (w : World), Only Q e a w → Q e a w := fun e a w h => by
  cases e <;> first | exact h | exact (h : False).elim
theorem only_lets : ¬ LetsOut (Only Q) := fun ⟨_, _, h⟩ => h
/-- In a round. -/
theorem wpIn_region_E {l n id : Nat} {a : Act} {w : World} (cs : Conds) (hm : P.follows .mixedOrders = true) (hno : noDefer ops = true) (hS : Hold cs (Array.replicate ops.size false) w.drew)
    (h : Hold cs (Array.replicate ops.size false) w.drew → wpAnyE P .any ops (Only Q) cs ops.size (Array.replicate ops.size false) a w.drew) : (Code.region id ops true).wpIn (Fence.wide.inRound l) n P Q a w :=
  wpIn_mono (wpIn_region_plain hm hno only_lets (wpAny_ofE _ _ _ _ (h hS))) only_imp
/-- Anywhere else. -/
theorem wp_region_E {id : Nat} {a : Act} {w : World} (cs : Conds) (hm : P.follows .mixedOrders = true) (hS : Hold cs (Array.replicate ops.size false) w.drew)
    (h : Hold cs (Array.replicate ops.size false) w.drew → wpAnyE P .any ops (Only Q) cs ops.size (Array.replicate ops.size false) a w.drew) : (Code.region id ops true).wp P Q a w :=
  Code.wp_mono only_imp (wp_region_any hm (wpAny_ofE _ _ _ _ (h hS)))
/-- A range over a function, in a plain walk; it may break off; both ways out go on alike. -/
theorem range_plain {α : Type} {g : Operand} {ps : Array Tmp} {assign body : Code} {a : Act} {w : World} {gf : Nat} {lb : Array Value} (hg : a.eval g = .func (.func gf) #[] lb) (eg : ∀ args w, (callFunc gf args).run P w = .ok (.enter gf args) w)
    {encs : α → Array Value} {Kp : World → World → Prop} {S Sp : List α → Prop} {N : Nat} (hseq : SeqStopsK Fence.wide 5 P gf lb encs Kp S Sp N w)
    (hKt : ∀ {A B C : World}, Kp A B → Kp B C → Kp A C) (hKb : ∀ (W : World) (l : Nat) (o o' : Obj), w.heap.size ≤ l → W.heap[l]? = some o → o.isCells = false → o.isWalk = false → Kp W (W.putObj l o')) (hps : ∀ x, (encs x).size = ps.size)
    (I : List α → World → Prop) (Ix : Code → List α → World → Prop) (hI : OwnFrom w.heap.size I) (hIx : ∀ c, OwnFrom w.heap.size (Ix c)) (h0 : I [] w)
    (id : Nat) (After : World → Prop) (hS : ∀ xs W, S xs → I xs W → After W) (hX : ∀ c pre W, Sp pre → Ix c pre W → c = .exit id ∧ After W) (hQ : ∀ a w, Q .normal a w → Q (.exit id) a w) (a₁ : α → Act)
    (hassign : ∀ (l : Nat) (x : α) (W : World) (K : Act → World → Prop), K (a₁ x) W →
      assign.wpIn (Fence.wide.inRound l) 4 P (Exit.then K (fun _ _ _ => False)) { tmps := (ps.zip (encs x)).foldl (fun t (p, v) => t.setIfInBounds p v) a.tmps, defers := [] } W)
    (hbody : ∀ (l : Nat) (pre : List α) (x : α) (W : World), I pre W → pre.length < N → body.wpIn (Fence.wide.inRound l) 4 P (ownPostG w.heap.size Kp I Ix (pre ++ [x]) W) (a₁ x) W)
    (hrest : ∀ (D : Nat) (W : World), w.heap.size ≤ D → After W → W.heap[D]? = some (.deferred (some [])) → Q .normal { a with defers := { target := .collected D, args := #[] } :: a.defers } W) :
    (Code.rangeFunc g ps assign body).wp P Q a w :=
  (wpIn_wide (n := 6)).1 (wpIn_rangeFunc_ownG rfl (by decide) hg trivial eg hseq hKt hKb (Below.refl _ _) hps I Ix hI hIx h0 a₁ hassign hbody
    (fun D xs W hD hs hi hk => hrest D W hD (hS xs W hs hi) hk) (fun D c pre W hD hs hi hk => by
      obtain ⟨rfl, h⟩ := hX c pre W hs hi
      exact wpIn_exit (hQ _ _ (hrest D W hD h hk))))
theorem blk_own {A B : World} {row : Option Nat} {b : Nat} {t : TypeId} {cs : Array Value} (h : Blk A b t cs) (hg : A.grownBy B row) (hr : ∀ r, row = some r → ∃ o : Obj, A.heap[r]? = some o ∧ o.isCells = false) : Blk B b t cs := h.grown hg (fun e => by
  obtain ⟨o, ho, hc⟩ := hr b e.symm
  unfold Blk at h
  rw [h] at ho
  cases ho
  cases hc)
theorem row_own {A B : World} {row : Option Nat} {base n k : Nat} {e : TypeId} {v : Value} {xs : List Value} (h : A.ownsRow base e k v n xs) (hg : A.grownBy B row) (hr : ∀ r, row = some r → ∃ o : Obj, A.heap[r]? = some o ∧ o.isCells = false) : B.ownsRow base e k v n xs := by
  obtain ⟨h0, h3 | ⟨b, cap, cur, rfl, e2, e3, e4⟩⟩ := h
  · exact ⟨h0, .inl h3⟩
  · exact ⟨h0, .inr ⟨b, cap, cur, rfl, e2, blk_own e3 hg hr, e4⟩⟩
/-- What lies in a box of another type is as it was behind an append. -/
theorem blk_row {W W' : World} {b base n k : Nat} {t e : TypeId} {cs : Array Value} {v : Value} {xs : List Value} (h : Blk W b t cs) (hrow : W.ownsRow base e k v n xs) (hne : t ≠ e) (hg : W.grownBy W' v.ownBlock) : Blk W' b t cs := h.grown hg (fun eq => by
  rcases hrow.2 with ⟨rfl, _⟩ | ⟨g, cap, cur, rfl, _, hgb, _⟩
  · cases eq
  · obtain rfl : b = g := Option.some.inj eq
    unfold Blk at h
    rw [hgb] at h
    cases h
    exact hne rfl)
/-- A function that holds a range over a function, entered; it leaves with marks. -/
theorem calls_marks {f : FuncId} {fn : Func} {c : Code} {args : Array Value} {w : World} {R : Ending → World → Prop} (hf : P.funcs[f]? = some fn) (hb : fn.body = some c)
    (h : c.wp P (bodyPostM Fence.wide 6 P fn R) { tmps := args ++ Array.replicate (fn.ntmps - args.size) undef, defers := [] } w) : Calls P f args w R :=
  (callsIn_wide (n := 6)).1 (callsIn_of_wp_marks hf hb trivial (wpIn_wide.2 h) rfl)
end
end Go.Proofs.YtphijnkiiokieaaGreatDoor
/- A range over a function whose iterator keeps what is left in a cell of its own: R says what it may turn between rounds. -/
namespace Go.Proofs.YtphijnkiiokieaaGreatDoor
open Go.RowKit
set_option linter.unusedVariables false
/-- What such an iterator owes: whatever abides its own steps, and lets it go on behind each round. -/
def SeqR {α : Type} (P : Program) (gf : Nat) (lb : Array Value) (encs : α → Array Value) (Kp R : World → World → Prop) (S Sp : List α → Prop) (w : World) : Prop :=
  ∀ (l : Nat) (J Jx : List α → World → Prop) (W : World), Below w.heap.size w W → (∀ s A B, J s A → R A B → J s B) → (∀ s A B, Jx s A → R A B → Jx s B) →
    (∀ pre x W1, Sp (pre ++ [x]) → J pre W1 → YieldAt Fence.wide 4 P l (encs x) W1 fun e W' => (e = .returned (.bool true) ∧ J (pre ++ [x]) W' ∧ Kp W1 W') ∨ (e = .returned (.bool false) ∧ Jx (pre ++ [x]) W')) →
    J [] W → CallsIn Fence.wide 5 P gf (#[.func (.yield l) #[] #[]] ++ lb) W fun e W' => (∃ v, e = .returned v) ∧ ((∃ xs, S xs ∧ J xs W') ∨ ∃ pre, Sp pre ∧ Jx pre W')
section
variable {P : Program}
theorem wpIn_range_R {α : Type} {g : Operand} {ps : Array Tmp} {assign body : Code} {Q : Exit → Act → World → Prop} {a : Act} {w : World} {gf : Nat} {lb : Array Value}
    (hg : a.eval g = .func (.func gf) #[] lb) (eg : ∀ args w, (callFunc gf args).run P w = .ok (.enter gf args) w)
    {encs : α → Array Value} {Kp R : World → World → Prop} {S Sp : List α → Prop} (hseq : SeqR P gf lb encs Kp R S Sp w) (hps : ∀ x, (encs x).size = ps.size)
    (hKt : ∀ {A B C : World}, Kp A B → Kp B C → Kp A C) (hKb : ∀ (W : World) (l : Nat) (o o' : Obj), w.heap.size ≤ l → W.heap[l]? = some o → o.isCells = false → Kp W (W.putObj l o'))
    (hRk : ∀ (A B : World) (k : Nat) (o : Obj), R A B → w.heap.size ≤ k → A.heap[k]? = some o → o.isCells = false → B.heap[k]? = some o)
    (I : List α → World → Prop) (Ix : Code → List α → World → Prop) (hI : OwnFrom w.heap.size I) (hIx : ∀ c, OwnFrom w.heap.size (Ix c)) (hIR : ∀ s A B, I s A → R A B → I s B) (hIxR : ∀ c s A B, Ix c s A → R A B → Ix c s B) (h0 : I [] w) (a₁ : α → Act)
    (hassign : ∀ (l : Nat) (x : α) (W : World) (K : Act → World → Prop), K (a₁ x) W →
      assign.wpIn (Fence.wide.inRound l) 4 P (Exit.then K (fun _ _ _ => False)) { tmps := (ps.zip (encs x)).foldl (fun t (p, v) => t.setIfInBounds p v) a.tmps, defers := [] } W)
    (hbody : ∀ (l : Nat) (pre : List α) (x : α) (W : World), Sp (pre ++ [x]) → I pre W → body.wpIn (Fence.wide.inRound l) 4 P (ownPostG w.heap.size Kp I Ix (pre ++ [x]) W) (a₁ x) W)
    (hdone : ∀ (D : Nat) (xs : List α) (W : World), w.heap.size ≤ D → S xs → I xs W → W.heap[D]? = some (.deferred (some [])) → Q .normal { a with defers := { target := .collected D, args := #[] } :: a.defers } W)
    (hstop : ∀ (D : Nat) (c : Code) (pre : List α) (W : World), w.heap.size ≤ D → Sp pre → Ix c pre W → W.heap[D]? = some (.deferred (some [])) → c.wpIn Fence.wide 6 P Q { a with defers := { target := .collected D, args := #[] } :: a.defers } W) :
    (Code.rangeFunc g ps assign body).wpIn Fence.wide 6 P Q a w := by
  refine wpIn_rangeFunc fun fn hfn => ?_
  -- the record of the loop, in any state
  let rec_ : LoopState → Option Code → Obj := fun st pe => .loop { state := st, pending := pe, fn, tmps := a.tmps, params := ps, assign, body, defers := w.heap.size }
  obtain ⟨l, hl⟩ : ∃ l, w.heap.size + 1 = l := ⟨_, rfl⟩
  obtain ⟨W0, hW0⟩ : ∃ W0, (w.alloc (.deferred (some []))).alloc (rec_ .ready none) = W0 := ⟨_, rfl⟩
  have hlw : w.heap.size ≤ l := by omega
  -- the two blocks of book-keeping
  let Bk : Obj → World → Prop := fun r W => W.heap[l]? = some r ∧ W.heap[w.heap.size]? = some (.deferred (some []))
  have hBk0 : Bk (rec_ .ready none) W0 := by
    refine ⟨?_, ?_⟩
    · rw [← hW0, ← hl]
      have := World.alloc_heap_new (w.alloc (.deferred (some []))) (rec_ .ready none)
      rwa [World.size_alloc] at this
    · rw [← hW0]
      exact (Below.heap_alloc _ _ _ (by simp)).trans (World.alloc_heap_new w _)
  have hbel : Below w.heap.size w W0 := by rw [← hW0]; exact ((Below.refl _ w).alloc (Nat.le_refl _) _).alloc (by simp) _
  have hI0 : I [] W0 := by rw [← hW0]; exact hI.alloc _ (hI.alloc _ h0)
  have hBkR : ∀ {r : Obj} {A B : World}, r.isCells = false → Bk r A → R A B → Bk r B := fun hr h k => ⟨hRk _ _ _ _ k hlw h.1 hr, hRk _ _ _ _ k (Nat.le_refl _) h.2 rfl⟩
  have hBkF : ∀ {r : Obj} {A B : World}, r.isCells = false → Bk r A → KeepsFrom w.heap.size A B → Bk r B := fun hr h k => ⟨k.same _ _ hlw h.1 hr, k.same _ _ (Nat.le_refl _) h.2 rfl⟩
  have hBkP : ∀ {r r' : Obj} {A : World}, Bk r A → Bk r' (A.putObj l r') := fun h => ⟨World.putObj_heap_same (Array.getElem?_eq_some_iff.1 h.1).1, (World.putObj_heap_other (by omega)).trans h.2⟩
  refine ⟨l, [{ target := .collected w.heap.size, args := #[] }], W0, { target := .fn (.func gf) lb, args := #[.func (.yield l) #[] #[]] }, W0, gf, #[.func (.yield l) #[] #[]] ++ lb, W0, ?_, ?_, fun _ _ => trivial, ?_, fun _ => by decide, ?_⟩
  · rw [← hW0, ← hl]; exact run_enterLoop_outer _ _ _ _ _
  · simp only [resolve, hg]
    simp [go_sem]
  · simp [invoke, go_sem, eg]
  refine (hseq l (fun pre W => I pre W ∧ Bk (rec_ .ready none) W) (fun pre W => ∃ c, Ix c pre W ∧ Bk (rec_ .done (some c)) W) W0 hbel (fun s A B h k => ⟨hIR _ _ _ h.1 k, hBkR rfl h.2 k⟩)
    (fun s A B ⟨c, h1, h2⟩ k => ⟨c, hIxR _ _ _ _ h1 k, hBkR rfl h2 k⟩) ?_ ⟨hI0, hBk0⟩).mono ?_
  · rintro pre x W hsp ⟨hi, hbk⟩
    refine ⟨fn, _, assign, body, run_yield (P := P) (args := encs x) hbk.1 (hps x), roundIn_of_wpIn hfn (hassign l x W _ ?_)⟩
    have hbk2 := hBkP (r' := rec_ .busy none) hbk
    have hkp1 := hKb W l _ (rec_ .busy none) hlw hbk.1 rfl
    refine ⟨_, run_beginRound hbk.1 rfl, wpIn_mono (hbody l pre x _ hsp (hI.putObj _ hi hlw hbk.1 rfl)) ?_⟩
    have fin : ∀ (jump : Option Code) (W3 : World), KeepsFrom w.heap.size (W.putObj l (rec_ .busy none)) W3 →
        (Instr.endRound l jump).run P W3 = .ok (.bool jump.isNone) (W3.putObj l (rec_ (if jump.isNone then .ready else .done) jump)) ∧ Bk (rec_ .busy none) W3 ∧ Bk (rec_ (if jump.isNone then .ready else .done) jump) (W3.putObj l (rec_ (if jump.isNone then .ready else .done) jump)) := fun jump W3 h3 =>
      have hb := hBkF rfl hbk2 h3
      ⟨run_endRound (P := P) jump hb.1, hb, hBkP hb⟩
    intro e a3 W3 hp
    cases e with
    | normal =>
      obtain ⟨h1, h2, h3⟩ := hp
      obtain ⟨r1, r2, r3⟩ := fin none W3 h1
      exact ⟨_, _, r1, .inl ⟨rfl, ⟨hI.putObj _ h3 hlw r2.1 rfl, r3⟩, hKt hkp1 (hKt h2 (hKb _ _ _ _ hlw r2.1 rfl))⟩⟩
    | ret =>
      obtain ⟨h1, h3⟩ := hp
      obtain ⟨r1, r2, r3⟩ := fin (some .ret) W3 h1
      exact ⟨_, _, r1, .inr ⟨rfl, .ret, (hIx _).putObj _ h3 hlw r2.1 rfl, r3⟩⟩
    | exit id =>
      obtain ⟨h1, h3⟩ := hp
      obtain ⟨r1, r2, r3⟩ := fin (some (.exit id)) W3 h1
      exact ⟨_, _, r1, .inr ⟨rfl, .exit id, (hIx _).putObj _ h3 hlw r2.1 rfl, r3⟩⟩
    | goto t =>
      obtain ⟨h1, h3⟩ := hp
      obtain ⟨r1, r2, r3⟩ := fin (some (.goto t)) W3 h1
      exact ⟨_, _, r1, .inr ⟨rfl, .goto t, (hIx _).putObj _ h3 hlw r2.1 rfl, r3⟩⟩
    | panic ch => exact hp.elim
    | outgrown => exact hp.elim
  · rintro e W2 ⟨⟨v, rfl⟩, ⟨xs, hS, hi, hbk⟩ | ⟨pre, hSp, c, hi, hbk⟩⟩
    · exact ⟨none, _, run_endLoop (P := P) hbk.1 (by simp), hdone _ xs _ (Nat.le_refl _) hS (hI.putObj _ hi hlw hbk.1 rfl) ((World.putObj_heap_other (by omega)).trans hbk.2)⟩
    · exact ⟨some c, _, run_endLoop (P := P) hbk.1 (by simp), hstop _ c pre _ (Nat.le_refl _) hSp ((hIx c).putObj _ hi hlw hbk.1 rfl) ((World.putObj_heap_other (by omega)).trans hbk.2)⟩
end
end Go.Proofs.YtphijnkiiokieaaGreatDoor
namespace Go.Proofs.YtphijnkiiokieaaGreatDoor
open Go.RowKit
open Go.Lib
open Go.Shelf
attribute [local go_sem] Oper.semAt_some
set_option linter.unusedVariables false
set_option linter.unusedSimpArgs false
set_option maxRecDepth 100000
/-- The first line with its end, and what is left. -/
def lineOf (s : ByteArray) : ByteArray × ByteArray :=
  if 0 ≤ indexByte s.data.toList 10 then (s.extract 0 ((indexByte s.data.toList 10).toNat + 1), s.extract ((indexByte s.data.toList 10).toNat + 1) s.size) else (s, ⟨#[]⟩)
def linesN : Nat → ByteArray → List ByteArray
  | 0, _ => []
  | f + 1, s => if s.size = 0 then [] else (lineOf s).1 :: linesN f (lineOf s).2
theorem lineOf_lt {s : ByteArray} (h : s.size ≠ 0) : (lineOf s).2.size < s.size := by
  unfold lineOf
  split
  · simp only [ByteArray.size_extract]
    omega
  · show 0 < s.size
    omega
theorem linesN_enough : ∀ (f g : Nat) (s : ByteArray), s.size ≤ f → s.size ≤ g → linesN f s = linesN g s
  | 0, 0, _, _, _ => rfl
  | 0, g + 1, s, h, _ => by unfold linesN; rw [if_pos (by omega)]
  | f + 1, 0, s, _, h => by unfold linesN; rw [if_pos (by omega)]
  | f + 1, g + 1, s, h, k => by
    unfold linesN
    by_cases h0 : s.size = 0
    · rw [if_pos h0, if_pos h0]
    · rw [if_neg h0, if_neg h0]
      have := lineOf_lt h0
      rw [linesN_enough f g _ (by omega) (by omega)]
def linesB (s : ByteArray) : List ByteArray := linesN s.size s
theorem linesB_nil {s : ByteArray} (h : s.size = 0) : linesB s = [] := by unfold linesB; rw [h]; rfl
theorem linesB_cons {s : ByteArray} (h : s.size ≠ 0) : linesB s = (lineOf s).1 :: linesB (lineOf s).2 := by
  have hl := lineOf_lt h
  unfold linesB
  rw [linesN_enough s.size (s.size - 1 + 1) s (Nat.le_refl _) (by omega)]
  conv => lhs; unfold linesN
  rw [if_neg h, linesN_enough (s.size - 1) _ _ (by omega) (Nat.le_refl _)]
def Kc (b : Nat) (A B : World) : Prop := B.heap[b]? = A.heap[b]?
/-- Nothing but the cell at b is turned. -/
structure Rc (b : Nat) (A B : World) : Prop where
  os : B.os = A.os
  tape : B.tape = A.tape
  output : B.output = A.output
  size : A.heap.size ≤ B.heap.size
  block : ∀ j, j < A.heap.size → j ≠ b → B.heap[j]? = A.heap[j]?
theorem Rc.refl (b : Nat) (A : World) : Rc b A A := ⟨rfl, rfl, rfl, Nat.le_refl _, fun _ _ _ => rfl⟩
theorem Rc.drew {b : Nat} {A B : World} (h : Rc b A B) : Rc b A B.drew := ⟨h.os, h.tape, h.output, h.size, h.block⟩
theorem Rc.drewN (b : Nat) (A : World) (q : Nat) : Rc b A (A.drewN q) := ⟨rfl, rfl, rfl, Nat.le_refl _, fun _ _ _ => rfl⟩
theorem Rc.trans {b : Nat} {A B C : World} (h : Rc b A B) (k : Rc b B C) : Rc b A C := ⟨k.os.trans h.os, k.tape.trans h.tape, k.output.trans h.output, Nat.le_trans h.size k.size, fun j h1 h2 => (k.block j (Nat.lt_of_lt_of_le h1 h.size) h2).trans (h.block j h1 h2)⟩
theorem Rc.set (b : Nat) (A : World) (u : Value) : Rc b A (A.setCell ⟨b, 0, none⟩ u) := ⟨rfl, rfl, rfl, by simp [World.setCell], fun j _ h => Below.heap_setCell A ⟨b, 0, none⟩ u j h⟩
def szAt (b : Nat) (w : World) : Nat := match w.cell? ⟨b, 0, none⟩ with | some (.string r) => r.size | _ => 0
theorem szAt_of {b : Nat} {w : World} {r : ByteArray} (h : Blk w b 9 #[.string r]) : szAt b w = r.size := by
  have c : w.cell? ⟨b, 0, none⟩ = some (.string r) := h.cell 0
  unfold szAt
  rw [c]
def enS (x : ByteArray) : Array Value := #[.string x]
def YL (J Jx : List ByteArray → World → Prop) (b : Nat) (pre : List ByteArray) (x : ByteArray) (W1 : World) (e : Ending) (W' : World) : Prop := ∃ bb, e = .returned (.bool bb) ∧ ((bb = true ∧ J (pre ++ [x]) W' ∧ Kc b W1 W') ∨ (bb = false ∧ Jx (pre ++ [x]) W'))
def HIndex : Prop := ∀ (s : ByteArray) (c : Int) (w : World), Calls Tryz.prog 77 #[.string s, .int .u8 c] w fun e w' => e = .returned (.int .i64 (indexByte s.data.toList c.toNat.toUInt8)) ∧ w' = w
set_option maxHeartbeats 8000000 in
theorem lines_seq (HIB : HIndex) (b : Nat) (s : ByteArray) (hs : s.size ≤ 1000000) (w : World) (hB : Blk w b 9 #[.string s]) :
    SeqR Tryz.prog 96 #[.pointer (some ⟨b, 0, none⟩)] enS (Kc b) (Rc b) (fun ys => ys = linesB s) (fun pre => pre <+: linesB s) w := fun l J Jx W hW hJ hJx hY h0 => by
  have hBW : Blk W b 9 #[.string s] := (hW.block b hB.lt).trans hB
  have hY2 : ∀ pre x W1, (pre ++ [x]) <+: linesB s → J pre W1 → YieldAt Fence.wide 4 Tryz.prog l (enS x) W1 (YL J Jx b pre x W1) := fun pre x W1 hsp hj => by
    obtain ⟨fn, tmps, assign, body, hy, hR⟩ := hY pre x W1 hsp hj
    exact ⟨fn, tmps, assign, body, hy, hR.mono (fun e W' h => h.elim (fun ⟨he, h1, h2⟩ => ⟨true, he, .inl ⟨rfl, h1, h2⟩⟩) (fun ⟨he, h1⟩ => ⟨false, he, .inr ⟨rfl, h1⟩⟩))⟩
  have HY := Lib.hid hY2
  have HB := Lib.hid hBW
  have HJ := Lib.hid hJ
  have HI := Lib.hid HIB
  have hd : Fence.wide.depth = none := rfl
  have hall : ∀ f, Fence.wide.fn f := fun _ => trivial
  have hro : Fence.wide.round = none := rfl
  have hlW : b < W.heap.size := hBW.lt
  clear hY hY2 hBW hB hJ hJx HIB
  refine callsIn_of_wp Tryz.func96 rfl (hall _) ?_ hro
  simp only [Tryz.ntmps96, List.size_toArray, List.length_cons, List.length_nil, Nat.reduceAdd, Nat.reduceSub, Array.replicate_succ, Array.replicate_zero, List.push_toArray, List.append_toArray, List.nil_append, List.cons_append]
  gi_wp2
  gi_loopw [3, 4] (fun _ _ wr => ∃ (pre : List ByteArray) (r : ByteArray), linesB s = pre ++ linesB r ∧ r.size ≤ 1000000 ∧ Blk wr b 9 #[.string r] ∧ J pre wr) (fun _ _ wr => szAt b wr)
  case atStart => exact ⟨[], s, rfl, hs, HB.out, h0⟩
  case round =>
    obtain ⟨pre, r, hpre, hr, hb, hj⟩ := hrel
    have HP := Lib.hid hpre
    have HBr := Lib.hid hb
    have HJr := Lib.hid hj
    have HSZ := Lib.hid (szAt_of hb)
    have c0 : wr.cell? ⟨b, 0, none⟩ = some (.string r) := hb.cell 0
    have f0 : wr.frozen? ⟨b, 0, none⟩ = false := hb.frozen 0
    clear hpre hb hj
    by_cases hz : r.size = 0
    · have hzI : ¬ (r.size : Int) > 0 := by omega
      have HE := Lib.hid (linesB_nil hz)
      clear hz
      gi_wp2
      go_end0
      exact ⟨⟨_, rfl⟩, .inl (by have := HP.out; rw [HE.out, List.append_nil] at this; rw [this]; exact HJr.out)⟩
    · have hzI : (r.size : Int) > 0 := by omega
      have HLC := Lib.hid (linesB_cons hz)
      have HLT := Lib.hid (lineOf_lt hz)
      obtain ⟨ix, hix⟩ : ∃ ix, indexByte r.data.toList 10 = ix := ⟨_, rfl⟩
      have HIX := Lib.hid hix
      have HC := Lib.hid (HI.out r 10 wr)
      have hten : ((10 : Int).toNat.toUInt8) = 10 := by decide
      rw [hten, hix] at HC
      clear hz hix hten
      by_cases hneg : ix < 0
      · have hixI : ¬ ix ≥ 0 := by omega
        have HLO := Lib.hid (show lineOf r = (r, ⟨#[]⟩) from by unfold lineOf; rw [HIX.out, if_neg (by omega)])
        rw [HLO.out] at HLC HLT
        clear hneg
        gi_wp2_with (gi_at_call 77; refine (callsIn_wide.2 HC.out).mono ?_; rintro _ wz ⟨rfl, hw0⟩; replace hw0 := hw0.symm; subst hw0)
        obtain ⟨fn, tmps, assign, body, hy, hRR⟩ := HY.out pre r (wr.setCell ⟨b, 0, none⟩ (.string ⟨#[]⟩)) ⟨linesB ⟨#[]⟩, by rw [HP.out, HLC.out, List.append_assoc]; rfl⟩ (HJ.out _ _ _ HJr.out (Rc.set b wr _))
        simp only [enS] at hy
        have HRR := Lib.hid hRR
        clear hRR
        go_simp
        refine HRR.out.mono ?_
        rintro e W3 ⟨bb, rfl, hh⟩
        have HH := Lib.hid hh
        clear hh hy
        rcases HH.out with ⟨rfl, hj3, hk3⟩ | ⟨rfl, hx3⟩
        · have HJ3 := Lib.hid hj3
          have HB3 := Lib.hid (show Blk W3 b 9 #[.string ⟨#[]⟩] from Eq.trans hk3 (HBr.out.set_ 0 _))
          have HS3 := Lib.hid (szAt_of HB3.out)
          clear hj3 hk3
          gi_wp2
          go_roundw
          case rel => exact ⟨pre ++ [r], ⟨#[]⟩, by rw [HP.out, HLC.out, List.append_assoc]; rfl, (by show (0 : Nat) ≤ _; omega), HB3.out, HJ3.out⟩
          case measure => rw [HS3.out, HSZ.out]; exact HLT.out
        · have HX3 := Lib.hid hx3
          clear hx3
          gi_wp2
          refine bodyPost_ret (results_none rfl _ _ _) rfl ?_
          exact ⟨⟨_, rfl⟩, .inr ⟨_, ⟨_, by rw [HP.out, HLC.out, List.append_assoc]; rfl⟩, HX3.out⟩⟩
      · obtain ⟨q, rfl⟩ : ∃ q : Nat, ix = (q : Int) := ⟨ix.toNat, by omega⟩
        have hixI : ((q : Nat) : Int) ≥ 0 := by omega
        obtain ⟨L, R, hLO⟩ : ∃ L R, r.extract 0 (q + 1) = L ∧ r.extract (q + 1) r.size = R := ⟨_, _, rfl, rfl⟩
        have hqs : q < r.size := by
          have := (indexByte_some HIX.out).1
          have h2 := (List.getElem?_eq_some_iff.1 this).1
          rw [Array.length_toList] at h2
          exact h2
        have HLO := Lib.hid (show lineOf r = (L, R) from by unfold lineOf; rw [HIX.out, if_pos hixI, ← hLO.1, ← hLO.2]; rfl)
        rw [HLO.out] at HLC HLT
        have HEX := Lib.hid hLO
        have c0d : wr.drew.cell? ⟨b, 0, none⟩ = some (.string r) := c0
        have f0d : wr.drew.frozen? ⟨b, 0, none⟩ = false := f0
        have i1 : IntKind.i64.wrap ((q : Int) + 1) = (q : Int) + 1 := IntWalk.i64_in _ (by omega)
        have i2 : (q : Int) + 1 ≤ (r.size : Int) := by omega
        have i3 : (0 : Int) ≤ (q : Int) + 1 := by omega
        clear hneg hLO
        gi_wp2_with (gi_at_call 77; refine (callsIn_wide.2 HC.out).mono ?_; rintro _ wz ⟨rfl, hw0⟩; replace hw0 := hw0.symm; subst hw0)
        refine wpIn_wide.2 ?_
        refine wp_region_E [([9], fun w' => w'.cell? ⟨b, 0, none⟩ = some (.string r))] (by kernel_rfl) ⟨fun _ => c0d, trivial⟩ (fun hHeld => ?_)
        refine wpAnyE_load (i := 0) _ _ (v := ?_) rfl (by kernel_rfl) List.mem_cons_self (by kernel_rfl) (by kernel_rfl) (by kernel_rfl) (by kernel_rfl) (fun _ _ _ h => h) (Or.inl ⟨by rfl, ?_⟩) hHeld (fun hHeld => ?_)
        rotate_left
        · (intro w hSw; (try dsimp only at hSw); (try simp only [List.getElem_toArray, List.getElem_cons_succ, List.getElem_cons_zero]); go_simp; try with_reducible rfl)
        try simp only [List.getElem_toArray, List.getElem_cons_succ, List.getElem_cons_zero, Act.put, List.setIfInBounds_toArray, List.set_cons_zero, List.set_cons_succ]
        refine wpAnyE_take (i := 1) (v := ?_) rfl (by kernel_rfl) (by kernel_rfl) (by kernel_rfl) (by kernel_rfl) (fun _ _ _ h => h) (Or.inl ⟨by rfl, ?_⟩) hHeld (fun hHeld => ?_)
        rotate_left
        · (intro w hSw; (try dsimp only at hSw); (try simp only [List.getElem_toArray, List.getElem_cons_succ, List.getElem_cons_zero]); go_simp; try with_reducible rfl)
        try simp only [List.getElem_toArray, List.getElem_cons_succ, List.getElem_cons_zero, Act.put, List.setIfInBounds_toArray, List.set_cons_zero, List.set_cons_succ]
        refine wpAnyE_take (i := 2) (v := ?_) rfl (by kernel_rfl) (by kernel_rfl) (by kernel_rfl) (by kernel_rfl) (fun _ _ _ h => h) (Or.inl ⟨by rfl, ?_⟩) hHeld (fun hHeld => ?_)
        rotate_left
        · (intro w hSw; (try dsimp only at hSw); (try simp only [List.getElem_toArray, List.getElem_cons_succ, List.getElem_cons_zero]); go_simp; try with_reducible rfl)
        try simp only [List.getElem_toArray, List.getElem_cons_succ, List.getElem_cons_zero, Act.put, List.setIfInBounds_toArray, List.set_cons_zero, List.set_cons_succ]
        refine wpAnyE_take (i := 3) (v := ?_) rfl (by kernel_rfl) (by kernel_rfl) (by kernel_rfl) (by kernel_rfl) (fun _ _ _ h => h) (Or.inl ⟨by rfl, ?_⟩) hHeld (fun hHeld => ?_)
        rotate_left
        · (intro w hSw; (try dsimp only at hSw); (try simp only [List.getElem_toArray, List.getElem_cons_succ, List.getElem_cons_zero]); go_simp; try with_reducible rfl)
        try simp only [List.getElem_toArray, List.getElem_cons_succ, List.getElem_cons_zero, Act.put, List.setIfInBounds_toArray, List.set_cons_zero, List.set_cons_succ]
        refine wpAnyE_load (i := 4) _ _ (v := ?_) rfl (by kernel_rfl) List.mem_cons_self (by kernel_rfl) (by kernel_rfl) (by kernel_rfl) (by kernel_rfl) (fun _ _ _ h => h) (Or.inl ⟨by rfl, ?_⟩) hHeld (fun hHeld => ?_)
        rotate_left
        · (intro w hSw; (try dsimp only at hSw); (try simp only [List.getElem_toArray, List.getElem_cons_succ, List.getElem_cons_zero]); go_simp; try with_reducible rfl)
        try simp only [List.getElem_toArray, List.getElem_cons_succ, List.getElem_cons_zero, Act.put, List.setIfInBounds_toArray, List.set_cons_zero, List.set_cons_succ]
        refine wpAnyE_take (i := 5) (v := ?_) rfl (by kernel_rfl) (by kernel_rfl) (by kernel_rfl) (by kernel_rfl) (fun _ _ _ h => h) (Or.inl ⟨by rfl, ?_⟩) hHeld (fun hHeld => ?_)
        rotate_left
        · (intro w hSw; (try dsimp only at hSw); (try simp only [List.getElem_toArray, List.getElem_cons_succ, List.getElem_cons_zero]); go_simp; try with_reducible rfl)
        try simp only [List.getElem_toArray, List.getElem_cons_succ, List.getElem_cons_zero, Act.put, List.setIfInBounds_toArray, List.set_cons_zero, List.set_cons_succ]
        refine wpAnyE_take (i := 6) (v := ?_) rfl (by kernel_rfl) (by kernel_rfl) (by kernel_rfl) (by kernel_rfl) (fun _ _ _ h => h) (Or.inl ⟨by rfl, ?_⟩) hHeld (fun hHeld => ?_)
        rotate_left
        · (intro w hSw; (try dsimp only at hSw); (try simp only [List.getElem_toArray, List.getElem_cons_succ, List.getElem_cons_zero]); go_simp; try with_reducible rfl)
        try simp only [List.getElem_toArray, List.getElem_cons_succ, List.getElem_cons_zero, Act.put, List.setIfInBounds_toArray, List.set_cons_zero, List.set_cons_succ]
        refine wpAnyE_take (i := 7) (v := ?_) rfl (by kernel_rfl) (by kernel_rfl) (by kernel_rfl) (by kernel_rfl) (fun _ _ _ h => h) (Or.inl ⟨by rfl, ?_⟩) hHeld (fun hHeld => ?_)
        rotate_left
        · (intro w hSw; (try dsimp only at hSw); (try simp only [List.getElem_toArray, List.getElem_cons_succ, List.getElem_cons_zero]); go_simp; try with_reducible rfl)
        try simp only [List.getElem_toArray, List.getElem_cons_succ, List.getElem_cons_zero, Act.put, List.setIfInBounds_toArray, List.set_cons_zero, List.set_cons_succ]
        refine wpAnyE_ready (rs := [8]) (by kernel_rfl) (by simp) (AllE.cons rfl (fun K hK => ?_) AllE.nil)
        clear hHeld
        go_simp
        refine hK.out _ _ ⟨fun _ => c0d, trivial⟩ (fun hHeld => ?_)
        clear hK K
        try simp only [List.getElem_toArray, List.getElem_cons_succ, List.getElem_cons_zero, Act.put, List.setIfInBounds_toArray, List.set_cons_zero, List.set_cons_succ]
        refine wpAnyE_ready (rs := [9]) (by kernel_rfl) (by simp) (AllE.cons rfl (fun K hK => ?_) AllE.nil)
        clear hHeld
        go_simp
        refine hK.out _ _ ⟨(fun e => absurd e (Bool.eq_false_iff.1 (by kernel_rfl))), trivial⟩ (fun hHeld => ?_)
        clear hK K
        try simp only [List.getElem_toArray, List.getElem_cons_succ, List.getElem_cons_zero, Act.put, List.setIfInBounds_toArray, List.set_cons_zero, List.set_cons_succ]
        refine wpAnyE_done (by kernel_rfl) (only_normal ?_) _
        rw [HEX.out.1, HEX.out.2]
        clear hHeld i1 i2 i3 c0d f0d c0 f0
        gi_wp2
        obtain ⟨fn, tmps, assign, body, hy, hRR⟩ := HY.out pre L (wr.setCell ⟨b, 0, none⟩ (.string R)).drew ⟨linesB R, by rw [HP.out, HLC.out, List.append_assoc]; rfl⟩ (HJ.out _ _ _ HJr.out (Rc.set b wr _).drew)
        simp only [enS] at hy
        have HRR := Lib.hid hRR
        clear hRR
        go_simp
        refine HRR.out.mono ?_
        rintro e W3 ⟨bb, rfl, hh⟩
        have HH := Lib.hid hh
        clear hh hy
        rcases HH.out with ⟨rfl, hj3, hk3⟩ | ⟨rfl, hx3⟩
        · have HJ3 := Lib.hid hj3
          have HB3 := Lib.hid (show Blk W3 b 9 #[.string R] from Eq.trans hk3 (HBr.out.set_ 0 _))
          have HS3 := Lib.hid (szAt_of HB3.out)
          clear hj3 hk3
          gi_wp2
          go_roundw
          case rel => exact ⟨pre ++ [L], R, by rw [HP.out, HLC.out, List.append_assoc]; rfl, (by have h1 : R.size < r.size := HLT.out; omega), HB3.out, HJ3.out⟩
          case measure => rw [HS3.out, HSZ.out]; exact HLT.out
        · have HX3 := Lib.hid hx3
          clear hx3
          gi_wp2
          refine bodyPost_ret (results_none rfl _ _ _) rfl ?_
          exact ⟨⟨_, rfl⟩, .inr ⟨_, ⟨_, by rw [HP.out, HLC.out, List.append_assoc]; rfl⟩, HX3.out⟩⟩
end Go.Proofs.YtphijnkiiokieaaGreatDoor
