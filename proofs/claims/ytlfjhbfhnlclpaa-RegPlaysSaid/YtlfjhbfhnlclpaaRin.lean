/- A region in a round of a range over a function goes as anywhere; a load that the region itself writes over at its end. -/
import Derived.Test.YtlfjhbfhnlclpaaWords
import Derived.RangeFuncNested
import Derived.RangeFuncBound
import Derived.RangeFuncLeaves
import Derived.OrdersHeld
import Derived.Deep.RegionHeld
import Derived.OwnWalkIn
import Derived.TacticsInMore
namespace Go.Proofs.Ytlfjhbfhnlclpaa
open Go.RowKit
set_option linter.unusedVariables false
section
variable {P : Program} {ops : Array Oper} {Q : Exit → Act → World → Prop} {md : Region.Mode}
theorem uponIn_of {l n : Nat} {o : Oper} {a : Act} {K : Act → World → Prop} {r : Result Next} (h : o.upon P a K Q r) : o.uponIn (Fence.wide.inRound l) n P a K Q r := by
  cases r with
  | ok x w' =>
    cases x <;> first
      | exact h
      | exact (h : False).elim
      | exact ⟨fun e => (by cases e), CallsIn.inRound l (callsIn_wide.2 h)⟩
      | exact ⟨fun e => (by cases e), fun c cs _ => (by
          obtain ⟨v, w2, h1, h2⟩ := h c cs
          exact ⟨v, w2, h1, stepsIn_wide.2 h2⟩)⟩
  | halt x w' => cases x <;> first | exact h | exact (h : False).elim
theorem wpOpIn_of {l n i : Nat} {K : Act → World → Prop} {a : Act} {w : World} (hno : ∀ (j : Nat) (o : Oper) (c : Call), ops[j]? = some o → o.op ≠ .defer c) (hQ : ¬ LetsOut Q) (h : wpOp P ops Q i K a w) : wpOpIn (Fence.wide.inRound l) n P ops Q i K a w := by
  unfold wpOp at h
  unfold wpOpIn
  cases ho : ops[i]? with
  | none => simp only [ho] at h ⊢; exact h
  | some o =>
    simp only [ho] at h ⊢
    by_cases hw : Region.wanted o (yielded ops a.tmps) = true
    · simp only [hw, if_true] at h ⊢
      rcases h with h | ⟨_, h⟩
      · refine ⟨fun _ _ => trivial, ?_⟩
        rw [Oper.semAt_eq _ _ _ (fun c => hno i o c ho)]
        exact uponIn_of h
      · exact absurd h hQ
    · simp only [hw, Bool.false_eq_true, if_false] at h ⊢
      exact ⟨fun _ _ => trivial, h⟩
theorem wpAnyIn_of {l n : Nat} (hno : ∀ (j : Nat) (o : Oper) (c : Call), ops[j]? = some o → o.op ≠ .defer c) (hQ : ¬ LetsOut Q) : ∀ (fuel : Nat) (listed : Array Bool) (a : Act) (w : World), wpAny P md ops Q fuel listed a w → wpAnyIn (Fence.wide.inRound l) n P md ops Q fuel listed a w
  | 0, _, _, _, h => h
  | fuel + 1, _, _, _, h => ⟨h.1, fun i hi => wpOpIn_of hno hQ (wpOp_mono (fun a w => wpAnyIn_of hno hQ fuel _ a w) (h.2 i hi))⟩
def noDefer (ops : Array Oper) : Bool := ops.all fun o => match o.op with | .defer _ => false | _ => true
theorem noDefer_spec (h : noDefer ops = true) (j : Nat) (o : Oper) (c : Call) (ho : ops[j]? = some o) : o.op ≠ .defer c := fun e => by
  have := Array.all_eq_true_iff_forall_mem.1 h o (Array.mem_of_getElem? ho)
  simp [e] at this
theorem wpIn_region_plain {l n id : Nat} {a : Act} {w : World} (hm : P.follows .mixedOrders = true) (hno : noDefer ops = true) (hQ : ¬ LetsOut Q)
    (h : wpAny P .any ops Q ops.size (Array.replicate ops.size false) a w.drew) : (Code.region id ops true).wpIn (Fence.wide.inRound l) n P Q a w :=
  wpIn_region_any hm (wpAnyIn_of (noDefer_spec hno) hQ _ _ _ _ h)
/-- What holds of the world as long as none of certain operations has come: (those operations, what holds). -/
abbrev Conds := List (List Nat × (World → Prop))
def open' (E : List Nat) (listed : Array Bool) : Bool := E.all fun j => !listed.getD j false
def Hold : Conds → Array Bool → World → Prop
  | [], _, _ => True
  | c :: cs, listed, w => (open' c.1 listed = true → c.2 w) ∧ Hold cs listed w
theorem Hold.get {cs : Conds} {listed : Array Bool} {w : World} {c : List Nat × (World → Prop)} (h : Hold cs listed w) (hc : c ∈ cs) (ho : open' c.1 listed = true) : c.2 w := by
  induction cs with
  | nil => cases hc
  | cons d cs ih =>
    rcases List.mem_cons.1 hc with rfl | hc
    · exact h.1 ho
    · exact ih h.2 hc
theorem getD_ne {listed : Array Bool} {i j : Nat} (d : Bool) (h : i ≠ j) : (listed.setIfInBounds i true).getD j d = listed.getD j d := by
  simp [Array.getElem?_setIfInBounds_ne h]
theorem open_ne {E : List Nat} {listed : Array Bool} {i : Nat} (h : i ∉ E) : open' E (listed.setIfInBounds i true) = open' E listed := by
  unfold open'
  rw [Bool.eq_iff_iff, List.all_eq_true, List.all_eq_true]
  constructor <;> intro k j hj
  · have := k j hj; rwa [getD_ne _ (fun e => h (by rw [e]; exact hj))] at this
  · rw [getD_ne _ (fun e => h (by rw [e]; exact hj))]; exact k j hj
theorem Hold.unset {i : Nat} {w : World} : ∀ {cs : Conds} {listed : Array Bool}, (∀ c ∈ cs, i ∉ c.1) → Hold cs (listed.setIfInBounds i true) w → Hold cs listed w
  | [], _, _, h => h
  | c :: cs, listed, hn, h => ⟨fun ho => h.1 (by rw [open_ne (hn c List.mem_cons_self)]; exact ho), Hold.unset (fun d hd => hn d (List.mem_cons_of_mem _ hd)) h.2⟩
/-- Whatever order comes; behind each operation holds what is to hold. -/
def wpAnyE (P : Program) (md : Region.Mode) (ops : Array Oper) (Q : Exit → Act → World → Prop) (cs : Conds) : Nat → Array Bool → Act → World → Prop
  | 0, listed, a, w => Region.ready md ops listed = [] ∧ Q .normal a w
  | fuel + 1, listed, a, w =>
    (Region.ready md ops listed = [] → Q .normal a w) ∧
    ∀ i ∈ Region.ready md ops listed, wpOp P ops Q i (fun a' w' => Hold cs (listed.setIfInBounds i true) w' ∧ wpAnyE P md ops Q cs fuel (listed.setIfInBounds i true) a' w') a w
variable {cs : Conds}
theorem wpAny_ofE : ∀ (fuel : Nat) (listed : Array Bool) (a : Act) (w : World), wpAnyE P md ops Q cs fuel listed a w → wpAny P md ops Q fuel listed a w
  | 0, _, _, _, h => h
  | fuel + 1, _, _, _, h => ⟨h.1, fun i hi => wpOp_mono (fun a' w' h' => wpAny_ofE fuel _ a' w' h'.2) (h.2 i hi)⟩
/-- Every operation of E waits for i. -/
def waitsFor (md : Region.Mode) (ops : Array Oper) (E : List Nat) (i : Nat) : Bool :=
  E.all fun j => match ops[j]? with | some o => o.after.any fun e => Region.binds md e && e.on == i | none => true
theorem waits {listed : Array Bool} {j g : Nat} {o : Oper} (ho : ops[j]? = some o) (h : (o.after.any fun e => Region.binds md e && e.on == g) = true) (hg : listed.getD g false = false) : j ∉ Region.ready md ops listed := fun hj => by
  obtain ⟨_, o', ho', hall⟩ := mem_ready.1 hj
  rw [ho] at ho'
  cases ho'
  obtain ⟨e, he, h2⟩ := Array.any_eq_true'.1 h
  rw [Bool.and_eq_true, beq_iff_eq] at h2
  have := hall e he h2.1
  rw [h2.2, hg] at this
  cases this
theorem Hold.set {i : Nat} {w : World} : ∀ {cs : Conds} {listed : Array Bool}, (∀ c ∈ cs, i ∉ c.1) → Hold cs listed w → Hold cs (listed.setIfInBounds i true) w
  | [], _, _, h => h
  | c :: cs, listed, hn, h => ⟨fun ho => h.1 (by rw [open_ne (hn c List.mem_cons_self)] at ho; exact ho), Hold.set (fun d hd => hn d (List.mem_cons_of_mem _ hd)) h.2⟩
theorem wpAnyE_first {i : Nat} {oi : Oper} {v : Value} (hi : ops[i]? = some oi) (hsel : ∀ (j : Nat) (o : Oper) cs b, ops[j]? = some o → o.op ≠ .select cs b)
    (hQ : ∀ c a w, Q (.panic c) (a.put oi.dst v) w → Q (.panic c) a w) (E : List Nat) (S : World → Prop) (hES : (E, S) ∈ cs ∨ ∀ w, S w) (hG : waitsFor md ops E i = true) (hiE : i ∉ E) (hic : ∀ c ∈ cs, i ∉ c.1) :
    ∀ (fuel : Nat) (listed : Array Bool) (a : Act) (w : World), open' E listed = true → listed.getD i false = false →
      (∀ j oj, ops[j]? = some oj → j ≠ i → listed.getD j true = false → (∀ e ∈ oj.after, Region.binds md e = true → e.on ≠ i) → oi.apart ops oj = true) →
      i ∈ Region.ready md ops listed → YieldsIf P ops S oi v a → Hold cs listed w →
      wpAnyE P md ops Q cs fuel (listed.setIfInBounds i true) (a.put oi.dst v) w → wpAnyE P md ops Q cs (fuel + 1) listed a w := by
  have hSw : ∀ (listed : Array Bool) (w : World), open' E listed = true → Hold cs listed w → S w := fun listed w ho h => hES.elim (fun hm => h.get hm ho) (fun h => h w)
  intro fuel
  induction fuel with
  | zero =>
    intro listed a w hop _ _ hr hy hS H
    refine ⟨fun h => (by rw [h] at hr; cases hr), fun j hj => ?_⟩
    by_cases hji : j = i
    · subst hji; exact hy.wpOp hi (hSw _ _ hop hS) ⟨Hold.set hic hS, H⟩
    · have := ready_mono hj hji
      rw [H.1] at this
      cases this
  | succ fuel ih =>
    intro listed a w hop hli hfree hr hy hS H
    refine ⟨fun h => (by rw [h] at hr; cases hr), fun j hj => ?_⟩
    by_cases hji : j = i
    · subst hji; exact hy.wpOp hi (hSw _ _ hop hS) ⟨Hold.set hic hS, H⟩
    · have hjE : j ∉ E := fun hjE => by
        have h1 := List.all_eq_true.1 hG j hjE
        obtain ⟨_, oj, hoj, _⟩ := mem_ready.1 hj
        rw [hoj] at h1
        exact waits hoj h1 hli hj
      have h1 := H.2 j (ready_mono hj hji)
      obtain ⟨hjun, oj, hoj, hall⟩ := mem_ready.1 hj
      have hnot : ∀ e ∈ oj.after, Region.binds md e = true → e.on ≠ i := fun e he hb heq => by
        have h1 := hall e he hb
        rw [heq, hli] at h1
        cases h1
      have h2 := wpOp_putIf hoj (hfree j oj hoj hji hjun hnot) (fun cs b => hsel i oi cs b hi) (fun cs b => hsel j oj cs b hoj) hQ hy h1
      refine wpOp_mono (fun a' w' h3 => ?_) h2
      have hS' : Hold cs (listed.setIfInBounds j true) w' := Hold.unset hic (by rw [Array.setIfInBounds_comm _ _ hji]; exact h3.2.1)
      refine ⟨hS', ih (listed.setIfInBounds j true) a' w' (by rw [open_ne hjE]; exact hop) (by rw [getD_ne _ hji]; exact hli) (fun k ok hk hki hun hno => ?_) (ready_mono hr (Ne.symm hji)) h3.1 hS' ?_⟩
      · refine hfree k ok hk hki ?_ hno
        by_cases hjk : j = k
        · subst hjk; exact hjun
        · rw [getD_set_ne true hjk] at hun; exact hun
      · rw [Array.setIfInBounds_comm _ _ hji]
        exact h3.2.2
def freeOf (cs : Conds) (i : Nat) : Bool := cs.all fun c => !c.1.contains i
theorem freeOf_spec {i : Nat} (h : freeOf cs i = true) (c : List Nat × (World → Prop)) (hc : c ∈ cs) : i ∉ c.1 := fun e => by
  have := List.all_eq_true.1 h c hc
  simp [e] at this
/-- A load, which what comes behind it may write over. -/
theorem wpAnyE_load {i : Nat} (E : List Nat) (S : World → Prop) {oi : Oper} {v : Value} {fuel : Nat} {listed : Array Bool} {a : Act} {w : World} (hi : ops[i]? = some oi) (hs : Region.noSelect ops = true) (hES : (E, S) ∈ cs) (hG : waitsFor md ops E i = true) (hl : (open' E listed && !listed.getD i false && !E.contains i && freeOf cs i) = true)
    (hf : Region.free md ops listed i = true) (hr : (Region.ready md ops listed).contains i = true) (hQ : ∀ c a w, Q (.panic c) (a.put oi.dst v) w → Q (.panic c) a w) (hy : YieldsIf P ops S oi v a) (hS : Hold cs listed w)
    (h : Hold cs (listed.setIfInBounds i true) w → wpAnyE P md ops Q cs fuel (listed.setIfInBounds i true) (a.put oi.dst v) w) : wpAnyE P md ops Q cs (fuel + 1) listed a w := by
  simp only [Bool.and_eq_true] at hl
  exact wpAnyE_first hi (Region.noSelect_spec hs) hQ E S (.inl hES) hG (by simpa using hl.1.2) (freeOf_spec hl.2) fuel listed a w hl.1.1.1 (by simpa using hl.1.1.2) (Region.free_spec hi hf) (by simpa using hr) hy hS (h (Hold.set (freeOf_spec hl.2) hS))
/-- What needs no memory. -/
theorem wpAnyE_take {i : Nat} {oi : Oper} {v : Value} {fuel : Nat} {listed : Array Bool} {a : Act} {w : World} (hi : ops[i]? = some oi) (hs : Region.noSelect ops = true) (hl : (!listed.getD i false && freeOf cs i) = true)
    (hf : Region.free md ops listed i = true) (hr : (Region.ready md ops listed).contains i = true) (hQ : ∀ c a w, Q (.panic c) (a.put oi.dst v) w → Q (.panic c) a w) (hy : YieldsIf P ops (fun _ => True) oi v a) (hS : Hold cs listed w)
    (h : Hold cs (listed.setIfInBounds i true) w → wpAnyE P md ops Q cs fuel (listed.setIfInBounds i true) (a.put oi.dst v) w) : wpAnyE P md ops Q cs (fuel + 1) listed a w := by
  simp only [Bool.and_eq_true] at hl
  exact wpAnyE_first hi (Region.noSelect_spec hs) hQ [] (fun _ => True) (.inr fun _ => trivial) rfl (by simp) (freeOf_spec hl.2) fuel listed a w rfl (by simpa using hl.1) (Region.free_spec hi hf) (by simpa using hr) hy hS (h (Hold.set (freeOf_spec hl.2) hS))
theorem wpAnyE_done {listed : Array Bool} {a : Act} {w : World} (hr : Region.ready md ops listed = []) (h : Q .normal a w) : ∀ fuel, wpAnyE P md ops Q cs fuel listed a w
  | 0 => ⟨hr, h⟩
  | _ + 1 => ⟨fun _ => h, by rw [hr]; simp⟩
def AllE (P : Program) (md : Region.Mode) (ops : Array Oper) (Q : Exit → Act → World → Prop) (cs : Conds) (fuel : Nat) (listed : Array Bool) (a : Act) (w : World) (rs : List Nat) : Prop :=
  ∀ i ∈ rs, wpOp P ops Q i (fun a' w' => Hold cs (listed.setIfInBounds i true) w' ∧ wpAnyE P md ops Q cs fuel (listed.setIfInBounds i true) a' w') a w
theorem AllE.nil {fuel : Nat} {listed : Array Bool} {a : Act} {w : World} : AllE P md ops Q cs fuel listed a w [] := fun _ h => by cases h
theorem AllE.cons {fuel : Nat} {listed : Array Bool} {a : Act} {w : World} {i : Nat} {o : Oper} {rs : List Nat} (ho : ops[i]? = some o)
    (h : ∀ K' : Act → World → Prop, Shut (∀ a w, Hold cs (listed.setIfInBounds i true) w → (Hold cs (listed.setIfInBounds i true) w → wpAnyE P md ops Q cs fuel (listed.setIfInBounds i true) a w) → K' a w) → if Region.wanted o (yielded ops a.tmps) = true then Oper.wp P o a w K' Q else K' (a.put o.dst undef) w)
    (hs : AllE P md ops Q cs fuel listed a w rs) : AllE P md ops Q cs fuel listed a w (i :: rs) := fun j hj => by
  rcases List.mem_cons.1 hj with rfl | hj
  · exact wpOp_step ho (fun K' hK => h K' (fun a w hS hW => hK a w ⟨hS, hW hS⟩))
  · exact hs j hj
theorem wpAnyE_ready {rs : List Nat} {fuel : Nat} {listed : Array Bool} {a : Act} {w : World} (hr : Region.ready md ops listed = rs) (hne : rs ≠ [])
    (h : AllE P md ops Q cs fuel listed a w rs) : wpAnyE P md ops Q cs (fuel + 1) listed a w := ⟨fun h0 => absurd (hr ▸ h0) hne, hr ▸ h⟩
/-- The post, where a region is shown to come to its end. -/
def Only (Q : Exit → Act → World → Prop) : Exit → Act → World → Prop
  | .normal, a, w => Q .normal a w
  | _, _, _ => False
theorem only_normal {a : Act} {w : World} (h : Q .normal a w) : Only Q .normal a w := h
theorem only_imp : ∀ (e : Exit) (a : Act) (w : World), Only Q e a w → Q e a w := fun e a w h => by
  cases e <;> first | exact h | exact (h : False).elim
theorem only_lets : ¬ LetsOut (Only Q) := fun ⟨_, _, h⟩ => h
/-- In a round. -/
theorem wpIn_region_E {l n id : Nat} {a : Act} {w : World} (cs : Conds) (hm : P.follows .mixedOrders = true) (hno : noDefer ops = true) (hS : Hold cs (Array.replicate ops.size false) w.drew)
    (h : Hold cs (Array.replicate ops.size false) w.drew → wpAnyE P .any ops (Only Q) cs ops.size (Array.replicate ops.size false) a w.drew) : (Code.region id ops true).wpIn (Fence.wide.inRound l) n P Q a w :=
  wpIn_mono (wpIn_region_plain hm hno only_lets (wpAny_ofE _ _ _ _ (h hS))) only_imp
/-- Anywhere else. -/
theorem wp_region_E {id : Nat} {a : Act} {w : World} (cs : Conds) (hm : P.follows .mixedOrders = true) (hS : Hold cs (Array.replicate ops.size false) w.drew)
    (h : Hold cs (Array.replicate ops.size false) w.drew → wpAnyE P .any ops (Only Q) cs ops.size (Array.replicate ops.size false) a w.drew) : (Code.region id ops true).wp P Q a w :=
  Code.wp_mono only_imp (wp_region_any hm (wpAny_ofE _ _ _ _ (h hS)))
/-- A range over a function, in a plain walk; it may break off; both ways out go on alike. -/
theorem range_plain {α : Type} {g : Operand} {ps : Array Tmp} {assign body : Code} {a : Act} {w : World} {gf : Nat} {lb : Array Value} (hg : a.eval g = .func (.func gf) #[] lb) (eg : ∀ args w, (callFunc gf args).run P w = .ok (.enter gf args) w)
    {encs : α → Array Value} {Kp : World → World → Prop} {S Sp : List α → Prop} {N : Nat} (hseq : SeqStopsK Fence.wide 5 P gf lb encs Kp S Sp N w)
    (hKt : ∀ {A B C : World}, Kp A B → Kp B C → Kp A C) (hKb : ∀ (W : World) (l : Nat) (o o' : Obj), w.heap.size ≤ l → W.heap[l]? = some o → o.isCells = false → o.isWalk = false → Kp W (W.putObj l o')) (hps : ∀ x, (encs x).size = ps.size)
    (I : List α → World → Prop) (Ix : Code → List α → World → Prop) (hI : OwnFrom w.heap.size I) (hIx : ∀ c, OwnFrom w.heap.size (Ix c)) (h0 : I [] w)
    (id : Nat) (After : World → Prop) (hS : ∀ xs W, S xs → I xs W → After W) (hX : ∀ c pre W, Sp pre → Ix c pre W → c = .exit id ∧ After W) (hQ : ∀ a w, Q .normal a w → Q (.exit id) a w) (a₁ : α → Act)
    (hassign : ∀ (l : Nat) (x : α) (W : World) (K : Act → World → Prop), K (a₁ x) W →
      assign.wpIn (Fence.wide.inRound l) 4 P (Exit.then K (fun _ _ _ => False)) { tmps := (ps.zip (encs x)).foldl (fun t (p, v) => t.setIfInBounds p v) a.tmps, defers := [] } W)
    (hbody : ∀ (l : Nat) (pre : List α) (x : α) (W : World), I pre W → pre.length < N → body.wpIn (Fence.wide.inRound l) 4 P (ownPostG w.heap.size Kp I Ix (pre ++ [x]) W) (a₁ x) W)
    (hrest : ∀ (D : Nat) (W : World), w.heap.size ≤ D → After W → W.heap[D]? = some (.deferred (some [])) → Q .normal { a with defers := { target := .collected D, args := #[] } :: a.defers } W) :
    (Code.rangeFunc g ps assign body).wp P Q a w :=
  (wpIn_wide (n := 6)).1 (wpIn_rangeFunc_ownG rfl (by decide) hg trivial eg hseq hKt hKb (Below.refl _ _) hps I Ix hI hIx h0 a₁ hassign hbody
    (fun D xs W hD hs hi hk => hrest D W hD (hS xs W hs hi) hk) (fun D c pre W hD hs hi hk => by
      obtain ⟨rfl, h⟩ := hX c pre W hs hi
      exact wpIn_exit (hQ _ _ (hrest D W hD h hk))))
theorem blk_own {A B : World} {row : Option Nat} {b : Nat} {t : TypeId} {cs : Array Value} (h : Blk A b t cs) (hg : A.grownBy B row) (hr : ∀ r, row = some r → ∃ o : Obj, A.heap[r]? = some o ∧ o.isCells = false) : Blk B b t cs := h.grown hg (fun e => by
  obtain ⟨o, ho, hc⟩ := hr b e.symm
  unfold Blk at h
  rw [h] at ho
  cases ho
  cases hc)
theorem row_own {A B : World} {row : Option Nat} {base n k : Nat} {e : TypeId} {v : Value} {xs : List Value} (h : A.ownsRow base e k v n xs) (hg : A.grownBy B row) (hr : ∀ r, row = some r → ∃ o : Obj, A.heap[r]? = some o ∧ o.isCells = false) : B.ownsRow base e k v n xs := by
  obtain ⟨h0, h3 | ⟨b, cap, cur, rfl, e2, e3, e4⟩⟩ := h
  · exact ⟨h0, .inl h3⟩
  · exact ⟨h0, .inr ⟨b, cap, cur, rfl, e2, blk_own e3 hg hr, e4⟩⟩
/-- What lies in a box of another type is as it was behind an append. -/
theorem blk_row {W W' : World} {b base n k : Nat} {t e : TypeId} {cs : Array Value} {v : Value} {xs : List Value} (h : Blk W b t cs) (hrow : W.ownsRow base e k v n xs) (hne : t ≠ e) (hg : W.grownBy W' v.ownBlock) : Blk W' b t cs := h.grown hg (fun eq => by
  rcases hrow.2 with ⟨rfl, _⟩ | ⟨g, cap, cur, rfl, _, hgb, _⟩
  · cases eq
  · obtain rfl : b = g := Option.some.inj eq
    unfold Blk at h
    rw [hgb] at h
    cases h
    exact hne rfl)
/-- A function that holds a range over a function, entered; it leaves with marks. -/
theorem calls_marks {f : FuncId} {fn : Func} {c : Code} {args : Array Value} {w : World} {R : Ending → World → Prop} (hf : P.funcs[f]? = some fn) (hb : fn.body = some c)
    (h : c.wp P (bodyPostM Fence.wide 6 P fn R) { tmps := args ++ Array.replicate (fn.ntmps - args.size) undef, defers := [] } w) : Calls P f args w R :=
  (callsIn_wide (n := 6)).1 (callsIn_of_wp_marks hf hb trivial (wpIn_wide.2 h) rfl)
end
end Go.Proofs.Ytlfjhbfhnlclpaa
