/- A slice that came in, element by element, cell by cell: at plain addresses of a block that was there. -/
import Derived.Below
import Derived.ChangeSame
import Derived.WalkKit
import Derived.ProofKit
import Derived.Carry
import Derived.OpenShut
import Derived.Laws.OwnMore
import Derived.Deep.Draws
import Derived.Laws.Rows
set_option linter.unnecessarySimpa false
/- The last step of a law's row, whatever its arguments' types: where the call leaves all that there was as it was ('Below'), each argument reads as it read before. No conditions. -/
namespace Go.Proofs.Ythcjbljkokflgaa
open Go.RowKit Go.WideShapes Go.ChangeShapes
section
variable {H : Type} {enc : TypeId × Value → H} {P : Program}

theorem trodAll_stays (hl : laidOutB P = true) {W W' : World} {sp : Nat → Bool} : ∀ {ts : List TypeId} {vs : List Value} {ds : List (DataW H)} {ps : List MemPlace},
    (∀ t ∈ ts, P.readableRec t = true ∧ t < P.types.size) → DataW.TrodAll enc P W 0 (fun _ => true) true ts vs ds ps → (∀ x ∈ ps, W.sameAt W' x) → (∀ x ∈ ps, sp x.block = true) → DataW.TrodAll enc P W' 0 sp true ts vs ds ps
  | [], [], [], _, _, h, _, _ => h
  | _ :: _, _ :: _, _ :: _, _, hT, ⟨p, q, h1, h2, e⟩, hsame, hs =>
    ⟨p, q, WideElems.Trod_stays hl (hT _ (List.mem_cons.2 (.inl rfl))).1 (hT _ (List.mem_cons.2 (.inl rfl))).2 h1 (fun x hx => hsame x (by rw [e]; exact List.mem_append_left _ hx)) (fun x hx => hs x (by rw [e]; exact List.mem_append_left _ hx)),
      trodAll_stays hl (fun t ht => hT t (List.mem_cons.2 (.inr ht))) h2 (fun x hx => hsame x (by rw [e]; exact List.mem_append_right _ hx)) (fun x hx => hs x (by rw [e]; exact List.mem_append_right _ hx)), e⟩

theorem post_of_below {f : Func} {s : ChangeSpec} {apart fresh handsOn again : Bool} {W W' : World} {args : Array Value} {v : Value} {ds gs : List (DataW H)} {before pa pv : List MemPlace}
    (hW : DataW.Whole enc P f.params.toList s.vars apart W args.toList ds gs before)
    (hres : ∀ (b : Nat) (sp : Nat → Bool) (hd : Bool), DataW.TrodAll enc P W' b sp hd f.resultTypes.toList (v.resultList f.resultTypes.size) (s.fn H (ds ++ gs)).results [])
    (hargs : ∀ sp : Nat → Bool, (∀ p ∈ before, sp p.block = true) → DataW.TrodAll enc P W' 0 sp true f.params.toList args.toList (s.fn H (ds ++ gs)).args pa)
    (hvars : ∀ sp : Nat → Bool, (∀ p ∈ before, sp p.block = true) → DataW.TrodVars enc P W' sp s.vars (s.fn H (ds ++ gs)).vars pv)
    (hps : before = pa ++ pv) (hb : Below W.heap.size W W')
    (hok : ∀ (j : Nat) (t : TypeId) (r : Value), f.resultTypes[j]? = some t → (v.resultList f.resultTypes.size)[j]? = some r → Value.okWide P W' .any 0 t r) :
    s.post enc P f apart fresh handsOn again W args v W' := by
  have hlt : ∀ p ∈ before, p.block < W.heap.size := fun p hp => hW.lt p hp
  have hold : ∀ p ∈ before, (fun b => decide (b < W.heap.size)) p.block = true := fun p hp => by simpa using hlt p hp
  refine ⟨ds, gs, before, [], pa, pv, hW, hres _ _ _, hargs _ hold, hvars _ hold, World.keptBut_mono (fun p hp => ⟨hp, ?_⟩) (hb.frame (· ∈ before)), fun _ => ?_⟩
  · rw [hps, List.mem_append] at hp
    exact Or.inr hp
  · obtain ⟨_, _, _, _, _, hz, hn⟩ := hW
    refine ⟨hok, _, _, ([] ++ pa) ++ pv, ⟨[] ++ pa, pv, trodAll_append (hargs _ (fun _ _ => rfl)) (hres _ _ _), hvars _ (fun _ _ => rfl), rfl, ?_, ?_⟩, ?_⟩
    · intro b off hp
      have hin : MemPlace.cell b off ∈ before := by rw [hps]; simpa using hp
      rw [hb.frozen (hlt _ hin)]
      exact hz b off hin
    · intro ha
      have := hn ha
      rw [hps] at this
      simpa using this
    · intro p hp _
      rw [hps]
      simpa using hp

/-- A law: true, and the arguments as they were. 'hA': the arguments' reading before the call. -/
theorem law_post {f : Func} {s : ChangeSpec} {handsOn again : Bool} {W W' : World} {args : Array Value} {ds : List (DataW H)} {before : List MemPlace} {tb : TypeId}
    (hl : laidOutB P = true) (hp : (f.params.toList.all fun t => P.readableRec t && decide (t < P.types.size)) = true)
    (hr : f.resultTypes = #[tb]) (hb4 : P.underlying tb = some .bool) (hs : s.vars = [])
    (hW : DataW.Whole enc P f.params.toList s.vars false W args.toList ds [] before)
    (hfn : s.fn H ds = { results := [.lit (.bool true)], args := ds }) (hb : Below W.heap.size W W') :
    s.post enc P f false true handsOn again W args (.bool true) W' := by
  have hlt : ∀ p ∈ before, p.block < W.heap.size := fun p hp => hW.lt p hp
  have hW' := hW
  obtain ⟨p, q, hA, hV, hpq, _, _⟩ := hW
  rw [hs] at hV
  obtain ⟨_, hq⟩ := trodVars_none hV
  subst hq
  rw [List.append_nil] at hpq
  subst hpq
  refine post_of_below (pa := before) (pv := []) hW' (fun _ _ _ => ?_) (fun sp hsp => ?_) (fun _ _ => ?_) (by simp) hb ?_
  · rw [List.append_nil, hfn, hr]
    exact trodAll_cons_mk (shut_bool hb4 _) trodAll_mk0
  · rw [List.append_nil, hfn]
    exact trodAll_stays hl (fun t ht => by have := List.all_eq_true.1 hp t ht; simpa using this) hA (fun x hx => hb.same (hlt x hx)) hsp
  · rw [List.append_nil, hfn, hs]
    exact rfl
  · exact ok_one hr rfl (okWide_bool_mk hb4 _)
end
end Go.Proofs.Ythcjbljkokflgaa
/- What an argument that can be read as data is: integers in their range, bools, strings, structs of these, slices of these, cell by cell. -/
namespace Go.Proofs.Ythcjbljkokflgaa
open Go.RowKit Go.WideShapes Go.ChangeShapes

inductive Sh where
  | int (k : IntKind)
  | bool
  | str
  | agg (n : Nat) (l : List (Nat × Nat × Sh))
  | slice (n : Nat) (e : Sh)

mutual
def Sh.ok (w : World) : Sh → List Value → Prop
  | .int k, cs => ∃ a, cs = [.int k a] ∧ (Lit.int k a).wf = true
  | .bool, cs => ∃ b, cs = [.bool b]
  | .str, cs => ∃ s : ByteArray, cs = [.string s] ∧ s.size ≤ maxLen
  | .agg n l, cs => cs.length = n ∧ Sh.okAll w l cs
  | .slice n e, cs => cs = [.slice none 0 0] ∨ ∃ (a : Addr) (len cap : Nat), cs = [.slice (some a) len cap] ∧ len ≤ cap ∧ cap ≤ maxLen ∧
      ∀ i, i < len → ∃ cs', w.cells? 0 (a.add (i * n)) n = some cs' ∧ Sh.ok w e cs'
def Sh.okAll (w : World) : List (Nat × Nat × Sh) → List Value → Prop
  | [], _ => True
  | (o, n, s) :: r, cs => Sh.ok w s ((cs.drop o).take n) ∧ Sh.okAll w r cs
end

def shAll (P : Program) (sh : TypeId → Option Sh) : List Field → Option (List (Nat × Nat × Sh))
  | [] => some []
  | f :: r => match sh f.type, shAll P sh r with
    | some s, some l => some ((f.offset, P.cellsOf f.type, s) :: l)
    | _, _ => none
def sh (P : Program) : Nat → TypeId → Option Sh
  | 0, _ => none
  | n + 1, t => match P.underlying t with
    | some (.int k) => some (.int k)
    | some .bool => some .bool
    | some .string => some .str
    | some (.struct fs) => match shAll P (sh P n) fs.toList with
      | some l => some (.agg (P.cellsOf t) l)
      | none => none
    | some (.slice e) => match sh P n e with
      | some s => some (.slice (P.cellsOf e) s)
      | none => none
    | _ => none

section
variable {H : Type} {enc : TypeId × Value → H} {P : Program} {w : World} {spare : Nat → Bool} {held : Bool}
theorem shAll_ok {F : TypeId → Option Sh} {n : Nat} {cs : List Value} (hF : ∀ t s cs x, F t = some s → DataW.trod enc P w 0 spare held n t cs = some x → Sh.ok w s cs) :
    ∀ (fs : List Field) (l : List (Nat × Nat × Sh)), shAll P F fs = some l → (∀ f ∈ fs, ∃ x, DataW.trod enc P w 0 spare held n f.type ((cs.drop f.offset).take (P.cellsOf f.type)) = some x) → Sh.okAll w l cs
  | [], l, h, _ => by
    simp only [shAll, Option.some.injEq] at h
    subst h
    simp [Sh.okAll]
  | f :: r, l, h, hx => by
    simp only [shAll] at h
    split at h
    next s l' h1 h2 =>
      simp only [Option.some.injEq] at h
      subst h
      obtain ⟨x, hx0⟩ := hx f (List.mem_cons.2 (.inl rfl))
      simp only [Sh.okAll]
      exact ⟨hF _ _ _ _ h1 hx0, shAll_ok hF r l' h2 (fun g hg => hx g (List.mem_cons.2 (.inr hg)))⟩
    next => cases h

theorem sh_ok : ∀ (m : Nat) (t : TypeId) (s : Sh) (n : Nat) (cs : List Value) (x : DataW H × List MemPlace), sh P m t = some s → DataW.trod enc P w 0 spare held n t cs = some x → Sh.ok w s cs := by
  intro m
  induction m with
  | zero => intro t s n cs x h; simp [sh] at h
  | succ m ih =>
    intro t s n cs x h hx
    simp only [sh] at h
    split at h
    next k hk =>
      simp only [Option.some.injEq] at h
      subst h
      obtain ⟨a, h1, _, h3⟩ := DataW.trod_int hk hx
      simp only [Sh.ok]
      exact ⟨a, h1, h3⟩
    next hk =>
      simp only [Option.some.injEq] at h
      subst h
      obtain ⟨a, h1, _⟩ := DataW.trod_bool hk hx
      simp only [Sh.ok]
      exact ⟨a, h1⟩
    next hk =>
      simp only [Option.some.injEq] at h
      subst h
      obtain ⟨a, h1, _, h3⟩ := DataW.trod_string hk hx
      simp only [Sh.ok]
      exact ⟨a, h1, h3⟩
    next fs hk =>
      split at h
      next l hl =>
        simp only [Option.some.injEq] at h
        subst h
        obtain ⟨xs, n', _, _, hlen, hxl, hat⟩ := DataW.trod_struct hk hx
        simp only [Sh.ok]
        refine ⟨hlen, shAll_ok (n := n') (fun t s cs x h1 h2 => ih t s n' cs x h1 h2) fs.toList l hl (fun f hf => ?_)⟩
        obtain ⟨i, hi, e⟩ := List.mem_iff_getElem.1 hf
        have hi' : i < fs.size := by simpa using hi
        have h1 : fs[i]? = some f := by rw [Array.getElem?_eq_getElem hi']; simp at e; rw [e]
        have h2 := hat i f h1
        rw [h2]
        exact ⟨_, List.getElem?_eq_getElem (by omega)⟩
      next => cases h
    next e hk =>
      split at h
      next s' hs' =>
        simp only [Option.some.injEq] at h
        subst h
        simp only [Sh.ok]
        rcases DataW.trod_slice hk hx with ⟨h1, _⟩ | ⟨a, len, cap, elems, rest, n', _, h1, _, _, hl, hm, hel, hc, _⟩
        · exact .inl h1
        · refine .inr ⟨a, len, cap, h1, hl, hm, fun i hi => ?_⟩
          have h2 := hc i hi
          rw [List.getElem?_eq_getElem (by omega)] at h2
          obtain ⟨cs', h3, h4⟩ := Option.bind_eq_some_iff.1 h2
          exact ⟨cs', h3, ih e s' n' cs' _ hs' h4⟩
      next => cases h
    next => cases h

/-- An argument: its cells are of its type's shape. -/
theorem arg_ok {t : TypeId} {s : Sh} {v : Value} {d : DataW H} {p : List MemPlace} (m : Nat) (hs : sh P m t = some s) (h : DataW.Trod enc P w 0 spare held t v d p) : Sh.ok w s v.cells.toList := by
  obtain ⟨n, hn⟩ := h
  exact sh_ok m t s n _ _ hs hn
end
theorem cells_lt {w : World} {a : Addr} {n : Nat} {cs : List Value} (h : w.cells? 0 a n = some cs) {j : Nat} (hj : j < n) : w.cell? (a.add j) = cs[j]? := by
  obtain ⟨_, hl, hat⟩ := World.cells?_some h
  exact hat j hj
end Go.Proofs.Ythcjbljkokflgaa
namespace Go.Proofs.Ythcjbljkokflgaa
open Go.RowKit

def Blk (w : World) (g : Nat) (t : TypeId) (cs : Array Value) : Prop := w.heap[g]? = some (.cells cs t (0, 0))
section
variable {w w' : World} {g : Nat} {t : TypeId} {cs : Array Value}
theorem Blk.lt (h : Blk w g t cs) : g < w.heap.size := by
  rcases Nat.lt_or_ge g w.heap.size with hlt | hge
  · exact hlt
  · unfold Blk at h; rw [Array.getElem?_eq_none hge] at h; cases h
theorem Blk.cell (h : Blk w g t cs) (i : Nat) : w.cell? ⟨g, i, none⟩ = cs[i]? := cell_of_row w g i cs t (0, 0) h
theorem Blk.frozen (h : Blk w g t cs) (i : Nat) : w.frozen? ⟨g, i, none⟩ = false := by
  unfold Blk at h
  simp [World.frozen?, h]
theorem Blk.new (w : World) (t : TypeId) (cs : Array Value) : Blk (w.alloc (.cells cs t)) w.heap.size t cs := heap_alloc_new w _
theorem Blk.drew (h : Blk w g t cs) : Blk w.drew g t cs := h
theorem Blk.drewN (h : Blk w g t cs) (n : Nat) : Blk (w.drewN n) g t cs := h
theorem Blk.alloc (h : Blk w g t cs) (o : Obj) : Blk (w.alloc o) g t cs := (Below.heap_alloc w o g h.lt).trans h
theorem Blk.set_ (h : Blk w g t cs) (i : Nat) (u : Value) : Blk (w.setCell ⟨g, i, none⟩ u) g t (cs.setIfInBounds i u) := by
  unfold Blk at h ⊢
  simp [World.setCell, Array.getElem?_modify, h]
theorem Blk.far (h : Blk w g t cs) {p : Addr} (hp : g ≠ p.block) (u : Value) : Blk (w.setCell p u) g t cs := (Below.heap_setCell w p u g hp).trans h
theorem Blk.below {B : Nat} (h : Blk w g t cs) (hb : Below B w w') (hg : g < B) : Blk w' g t cs := (hb.block g hg).trans h
theorem Blk.grown {row : Option Nat} (h : Blk w g t cs) (hb : w.grownBy w' row) (hg : some g ≠ row) : Blk w' g t cs := (hb.block g h.lt hg).trans h
end
theorem below_drewN {B : Nat} {a w : World} (h : Below B a w) (n : Nat) : Below B a (w.drewN n) := ⟨h.os, h.tape, h.output, h.size, h.block⟩
theorem only_drewN {a w : World} {row : Option Nat} (h : a.grownBy w row) (n : Nat) : a.grownBy (w.drewN n) row := ⟨h.os, h.tape, h.output, h.size, h.block⟩
theorem only_setCell {a w : World} {g : Nat} (h : a.grownBy w (some g)) {p : Addr} (hp : p.block = g ∨ a.heap.size ≤ p.block) (u : Value) : a.grownBy (w.setCell p u) (some g) :=
  ⟨h.os, h.tape, h.output, by simpa [World.setCell] using h.size, fun i hi hne => (Below.heap_setCell w p u i (by
    rintro rfl
    rcases hp with hp | hp
    · exact hne (by rw [hp])
    · omega)).trans (h.block i hi hne)⟩
theorem ret_u64 {a b : Int} (h : a = b) : Ending.returned (Value.int .u64 a) = .returned (.int .u64 b) := by rw [h]
theorem ret_i64 {a b : Int} (h : a = b) : Ending.returned (Value.int .i64 a) = .returned (.int .i64 b) := by rw [h]
theorem ret_bool {a b : Bool} (h : a = b) : Ending.returned (Value.bool a) = .returned (.bool b) := by rw [h]
end Go.Proofs.Ythcjbljkokflgaa
/- Bytes, one behind the other: their order. -/
namespace Go.Proofs.Ythcjbljkokflgaa
open Go.RowKit
set_option linter.unusedVariables false
theorem bl_irr : ∀ l : List UInt8, Op.bytesLess l l = false
  | [] => rfl
  | a :: x => by simp [Op.bytesLess, bl_irr x]
theorem bl_asym : ∀ l m : List UInt8, Op.bytesLess l m = true → Op.bytesLess m l = false
  | _, [], h => by cases h' : ‹List UInt8› <;> simp_all [Op.bytesLess]
  | [], _ :: _, _ => by simp [Op.bytesLess]
  | a :: x, b :: y, h => by
    simp only [Op.bytesLess, Bool.or_eq_true, decide_eq_true_eq, Bool.and_eq_true, beq_iff_eq] at h
    simp only [Op.bytesLess, Bool.or_eq_false_iff, decide_eq_false_iff_not, Bool.and_eq_false_imp, beq_iff_eq]
    rcases h with h | ⟨rfl, h⟩
    · exact ⟨UInt8.lt_asymm h, fun e => by subst e; exact absurd h (UInt8.lt_irrefl _)⟩
    · exact ⟨UInt8.lt_irrefl _, fun _ => bl_asym x y h⟩
theorem bl_total : ∀ l m : List UInt8, l ≠ m → Op.bytesLess l m = true ∨ Op.bytesLess m l = true
  | [], [], h => absurd rfl h
  | [], _ :: _, _ => by simp [Op.bytesLess]
  | _ :: _, [], _ => by simp [Op.bytesLess]
  | a :: x, b :: y, h => by
    simp only [Op.bytesLess, Bool.or_eq_true, decide_eq_true_eq, Bool.and_eq_true, beq_iff_eq]
    by_cases e : a = b
    · subst e
      rcases bl_total x y (fun e => h (by rw [e])) with h1 | h1
      · exact .inl (.inr ⟨rfl, h1⟩)
      · exact .inr (.inr ⟨rfl, h1⟩)
    · rcases UInt8.lt_or_lt_of_ne e with h1 | h1
      · exact .inl (.inl h1)
      · exact .inr (.inl h1)
theorem bl_trans : ∀ l m n : List UInt8, Op.bytesLess l m = true → Op.bytesLess m n = true → Op.bytesLess l n = true
  | _, _, [], _, h => by simp [Op.bytesLess] at h
  | _, [], _ :: _, h, _ => by simp [Op.bytesLess] at h
  | [], _ :: _, _ :: _, _, _ => by simp [Op.bytesLess]
  | a :: x, b :: y, c :: z, h1, h2 => by
    simp only [Op.bytesLess, Bool.or_eq_true, decide_eq_true_eq, Bool.and_eq_true, beq_iff_eq] at h1 h2 ⊢
    rcases h1 with h1 | ⟨rfl, h1⟩
    · rcases h2 with h2 | ⟨rfl, h2⟩
      · exact .inl (UInt8.lt_trans h1 h2)
      · exact .inl h1
    · rcases h2 with h2 | ⟨rfl, h2⟩
      · exact .inl h2
      · exact .inr ⟨rfl, bl_trans x y z h1 h2⟩
end Go.Proofs.Ythcjbljkokflgaa
/- Trees: their maths (put, del, glue, what stands in them in order). -/
namespace Go.Proofs.Ythcjbljkokflgaa
open Go.RowKit
set_option linter.unusedVariables false
set_option linter.unusedSimpArgs false
def klt (a b : ByteArray) : Bool := Op.bytesLess a.toList b.toList
theorem klt_irr (a : ByteArray) : klt a a = false := bl_irr _
theorem klt_asym {a b : ByteArray} (h : klt a b = true) : klt b a = false := bl_asym _ _ h
theorem klt_trans {a b c : ByteArray} (h : klt a b = true) (k : klt b c = true) : klt a c = true := bl_trans _ _ _ h k
theorem key_ext {a b : ByteArray} (h : a.toList = b.toList) : a = b := by
  rw [ByteArray.toList_eq, ByteArray.toList_eq] at h
  exact ByteArray.ext (Array.toList_inj.1 h)
theorem klt_total {a b : ByteArray} (h : a ≠ b) : klt a b = true ∨ klt b a = true := bl_total _ _ (fun e => h (key_ext e))
theorem keq {a b : ByteArray} : (a.toList == b.toList) = decide (a = b) := by
  by_cases h : a = b
  · subst h; simp
  · rw [decide_eq_false h]
    exact beq_false_of_ne (fun e => h (key_ext e))
inductive Tr (α : Type) where
  | nil : Tr α
  | node (k : ByteArray) (v : α) (l r : Tr α) : Tr α
namespace Tr
variable {α β : Type}
def size : Tr α → Nat
  | .nil => 0
  | .node _ _ l r => size l + 1 + size r
def ino : Tr α → List (ByteArray × α)
  | .nil => []
  | .node k v l r => ino l ++ (k, v) :: ino r
theorem size_ino : ∀ T : Tr α, T.size = T.ino.length
  | .nil => rfl
  | .node k v l r => by
    unfold size ino
    rw [List.length_append, List.length_cons, size_ino l, size_ino r]; omega
def turnL (l : Tr α) (k : ByteArray) (v : α) (r : Tr α) : Tr α :=
  match r with
  | .nil => .node k v l .nil
  | .node rk rv rl rr =>
    if 2 * rr.size ≤ rl.size then
      match rl with
      | .nil => .node k v l (.node rk rv .nil rr)
      | .node ik iv il ir => .node ik iv (.node k v l il) (.node rk rv ir rr)
    else .node rk rv (.node k v l rl) rr
def turnR (l : Tr α) (k : ByteArray) (v : α) (r : Tr α) : Tr α :=
  match l with
  | .nil => .node k v .nil r
  | .node lk lv ll lr =>
    if 2 * ll.size ≤ lr.size then
      match lr with
      | .nil => .node k v (.node lk lv ll .nil) r
      | .node ik iv il ir => .node ik iv (.node lk lv ll il) (.node k v ir r)
    else .node lk lv ll (.node k v lr r)
def bal (l : Tr α) (k : ByteArray) (v : α) (r : Tr α) : Tr α :=
  if l.size + r.size < 2 then .node k v l r
  else if 3 * l.size < r.size then turnL l k v r
  else if 3 * r.size < l.size then turnR l k v r
  else .node k v l r
theorem ino_turnL (l : Tr α) (k : ByteArray) (v : α) (r : Tr α) : (turnL l k v r).ino = l.ino ++ (k, v) :: r.ino := by
  unfold turnL
  cases r with
  | nil => rfl
  | node rk rv rl rr =>
    simp only
    split
    · cases rl with
      | nil => rfl
      | node ik iv il ir => simp [ino]
    · simp [ino]
theorem ino_turnR (l : Tr α) (k : ByteArray) (v : α) (r : Tr α) : (turnR l k v r).ino = l.ino ++ (k, v) :: r.ino := by
  unfold turnR
  cases l with
  | nil => rfl
  | node lk lv ll lr =>
    simp only
    split
    · cases lr with
      | nil => simp [ino]
      | node ik iv il ir => simp [ino]
    · simp [ino]
theorem ino_bal (l : Tr α) (k : ByteArray) (v : α) (r : Tr α) : (bal l k v r).ino = l.ino ++ (k, v) :: r.ino := by
  unfold bal
  split
  · rfl
  split
  · exact ino_turnL l k v r
  split
  · exact ino_turnR l k v r
  · rfl
def put (k : ByteArray) (v : α) : Tr α → Tr α
  | .nil => .node k v .nil .nil
  | .node k' v' l r => if klt k k' = true then bal (put k v l) k' v' r else if k = k' then .node k v l r else bal l k' v' (put k v r)
def lst : Tr α → Option (ByteArray × α)
  | .nil => none
  | .node k v _ .nil => some (k, v)
  | .node _ _ _ (.node k v l r) => lst (.node k v l r)
def fst : Tr α → Option (ByteArray × α)
  | .nil => none
  | .node k v .nil _ => some (k, v)
  | .node _ _ (.node k v l r) _ => fst (.node k v l r)
/-- Both sides without what stood between them; dl, dr: how each side loses a key. -/
def glueW (l r : Tr α) (dl dr : ByteArray → Tr α) : Tr α :=
  match l, r with
  | .nil, r => r
  | l, .nil => l
  | l, r => if r.size < l.size then (match lst l with
      | some p => bal (dl p.1) p.1 p.2 r
      | none => r) else (match fst r with
      | some p => bal l p.1 p.2 (dr p.1)
      | none => l)
def del : Tr α → ByteArray → Tr α
  | .nil, _ => .nil
  | .node k' v' l r, k => if klt k k' = true then bal (del l k) k' v' r else if k = k' then glueW l r (del l) (del r) else bal l k' v' (del r k)
def get (k : ByteArray) : Tr α → Option α
  | .nil => none
  | .node k' v' l r => if klt k k' = true then get k l else if k = k' then some v' else get k r
def place (k : ByteArray) : Tr α → Nat
  | .nil => 0
  | .node k' _ l r => if klt k' k = true then l.size + 1 + place k r else place k l
theorem lst_ino : ∀ T : Tr α, T.lst = T.ino.getLast?
  | .nil => rfl
  | .node k v l .nil => by simp [lst, ino]
  | .node k v l (.node k2 v2 l2 r2) => by
    have := lst_ino (.node k2 v2 l2 r2)
    unfold lst
    rw [this]
    simp [ino, List.getLast?_append, List.getLast?_cons]
theorem fst_ino : ∀ T : Tr α, T.fst = T.ino.head?
  | .nil => rfl
  | .node k v .nil r => by simp [fst, ino]
  | .node k v (.node k2 v2 l2 r2) r => by
    have := fst_ino (.node k2 v2 l2 r2)
    unfold fst
    rw [this]
    simp [ino, List.head?_append]
end Tr
section
variable {α β : Type}
def Srt (L : List (ByteArray × α)) : Prop := L.Pairwise fun a b => klt a.1 b.1 = true
def insL (k : ByteArray) (v : α) : List (ByteArray × α) → List (ByteArray × α)
  | [] => [(k, v)]
  | p :: L => if klt k p.1 = true then (k, v) :: p :: L else if k = p.1 then (k, v) :: L else p :: insL k v L
def delL (k : ByteArray) (L : List (ByteArray × α)) : List (ByteArray × α) := L.filter fun p => decide (p.1 ≠ k)
def getL (k : ByteArray) : List (ByteArray × α) → Option α
  | [] => none
  | p :: L => if k = p.1 then some p.2 else getL k L
theorem getL_cons (k : ByteArray) (p : ByteArray × α) (L : List (ByteArray × α)) : getL k (p :: L) = if k = p.1 then some p.2 else getL k L := rfl
def plc (k : ByteArray) (L : List (ByteArray × α)) : Nat := (L.filter fun p => klt p.1 k).length
theorem Srt.split {A B : List (ByteArray × α)} {p : ByteArray × α} (h : Srt (A ++ p :: B)) : Srt A ∧ Srt B ∧ (∀ a ∈ A, klt a.1 p.1 = true) ∧ (∀ b ∈ B, klt p.1 b.1 = true) ∧ ∀ a ∈ A, ∀ b ∈ B, klt a.1 b.1 = true := by
  obtain ⟨h1, h2, h3⟩ := List.pairwise_append.1 h
  obtain ⟨h4, h5⟩ := List.pairwise_cons.1 h2
  exact ⟨h1, h5, fun a ha => h3 a ha p List.mem_cons_self, h4, fun a ha b hb => h3 a ha b (List.mem_cons_of_mem _ hb)⟩
theorem insL_left {k : ByteArray} {v : α} {p : ByteArray × α} {B : List (ByteArray × α)} (hk : klt k p.1 = true) : ∀ A : List (ByteArray × α), insL k v (A ++ p :: B) = insL k v A ++ p :: B
  | [] => by simp [insL, hk]
  | a :: A => by
    rw [List.cons_append]
    unfold insL
    split
    · rfl
    split
    · rfl
    · rw [insL_left hk A]; rfl
theorem insL_skip {k : ByteArray} {v : α} {B : List (ByteArray × α)} : ∀ A : List (ByteArray × α), (∀ a ∈ A, klt a.1 k = true) → insL k v (A ++ B) = A ++ insL k v B
  | [], _ => rfl
  | a :: A, h => by
    have ha := h a List.mem_cons_self
    rw [List.cons_append]
    conv => lhs; unfold insL
    rw [if_neg (by rw [klt_asym ha]; decide), if_neg (fun e => by rw [e, klt_irr] at ha; cases ha), insL_skip A (fun b hb => h b (List.mem_cons_of_mem _ hb))]
    rfl
theorem getL_none {k : ByteArray} : ∀ {L : List (ByteArray × α)}, (∀ a ∈ L, a.1 ≠ k) → getL k L = none
  | [], _ => rfl
  | a :: L, h => by
    unfold getL
    rw [if_neg (fun e => h a List.mem_cons_self e.symm), getL_none (fun b hb => h b (List.mem_cons_of_mem _ hb))]
theorem getL_append {k : ByteArray} : ∀ (A B : List (ByteArray × α)), getL k (A ++ B) = (getL k A).or (getL k B)
  | [], B => by simp [getL]
  | a :: A, B => by
    rw [List.cons_append, getL_cons, getL_cons]
    split
    · simp
    · exact getL_append A B
theorem delL_append (k : ByteArray) (A B : List (ByteArray × α)) : delL k (A ++ B) = delL k A ++ delL k B := by unfold delL; rw [List.filter_append]
theorem delL_id {k : ByteArray} {L : List (ByteArray × α)} (h : ∀ a ∈ L, a.1 ≠ k) : delL k L = L := List.filter_eq_self.2 (fun a ha => by simpa using h a ha)
theorem delL_sub {k : ByteArray} {L : List (ByteArray × α)} : (delL k L).Sublist L := List.filter_sublist
theorem Srt.del {L : List (ByteArray × α)} (h : Srt L) (k : ByteArray) : Srt (delL k L) := h.sublist delL_sub
theorem insL_mem {k : ByteArray} {v : α} {q : ByteArray × α} : ∀ {L : List (ByteArray × α)}, q ∈ insL k v L → q = (k, v) ∨ q ∈ L
  | [], h => by
    rcases List.mem_cons.1 h with h | h
    · exact .inl h
    · cases h
  | p :: L, h => by
    unfold insL at h
    split at h
    · rcases List.mem_cons.1 h with h | h
      · exact .inl h
      · exact .inr h
    split at h
    · rcases List.mem_cons.1 h with h | h
      · exact .inl h
      · exact .inr (List.mem_cons_of_mem _ h)
    · rcases List.mem_cons.1 h with h | h
      · exact .inr (h ▸ List.mem_cons_self)
      · rcases insL_mem h with h | h
        · exact .inl h
        · exact .inr (List.mem_cons_of_mem _ h)
theorem Srt.ins {k : ByteArray} {v : α} : ∀ {L : List (ByteArray × α)}, Srt L → Srt (insL k v L)
  | [], _ => List.pairwise_singleton _ _
  | p :: L, h => by
    obtain ⟨h1, h2⟩ := List.pairwise_cons.1 h
    unfold insL
    split
    · rename_i hk
      refine List.pairwise_cons.2 ⟨fun b hb => ?_, h⟩
      rcases List.mem_cons.1 hb with rfl | hb
      · exact hk
      · exact klt_trans hk (h1 b hb)
    split
    · rename_i hk
      refine List.pairwise_cons.2 ⟨fun b hb => ?_, h2⟩
      show klt k b.1 = true
      rw [hk]; exact h1 b hb
    · rename_i h3 h4
      refine List.pairwise_cons.2 ⟨fun b hb => ?_, Srt.ins h2⟩
      rcases insL_mem hb with rfl | hb
      · rcases klt_total h4 with e | e
        · exact absurd e h3
        · exact e
      · exact h1 b hb
theorem insL_len {k : ByteArray} {v : α} : ∀ {L : List (ByteArray × α)}, Srt L → (insL k v L).length = L.length + (if (getL k L).isSome = true then 0 else 1)
  | [], _ => rfl
  | p :: L, h => by
    obtain ⟨h1, h2⟩ := List.pairwise_cons.1 h
    unfold insL getL
    by_cases hk : klt k p.1 = true
    · have hne : k ≠ p.1 := fun e => by rw [e, klt_irr] at hk; cases hk
      rw [if_pos hk, if_neg hne, getL_none (fun a ha e => by
        have h3 := klt_trans hk (h1 a ha)
        rw [e, klt_irr] at h3; cases h3)]
      simp
    · rw [if_neg hk]
      by_cases he : k = p.1
      · rw [if_pos he, if_pos he]; simp
      · rw [if_neg he, if_neg he, List.length_cons, insL_len h2, List.length_cons]; omega
theorem getL_ins {k j : ByteArray} {v : α} : ∀ {L : List (ByteArray × α)}, Srt L → getL j (insL k v L) = if j = k then some v else getL j L
  | [], _ => rfl
  | p :: L, h => by
    obtain ⟨h1, h2⟩ := List.pairwise_cons.1 h
    unfold insL
    by_cases hk : klt k p.1 = true
    · rw [if_pos hk]; rfl
    · rw [if_neg hk]
      by_cases he : k = p.1
      · rw [if_pos he, getL_cons, getL_cons]
        by_cases hj : j = k
        · subst hj; simp
        · rw [if_neg hj, if_neg hj, if_neg (fun e => hj (by rw [e, he]))]
      · rw [if_neg he]
        rw [getL_cons, getL_ins h2]
        by_cases hj : j = k
        · rw [if_pos hj, if_neg (fun e => he (by rw [← hj, e])), if_pos hj]
        · rw [if_neg hj, if_neg hj, getL_cons]
theorem getL_mem {k : ByteArray} {v : α} : ∀ {L : List (ByteArray × α)}, getL k L = some v → (k, v) ∈ L
  | [], h => by cases h
  | p :: L, h => by
    unfold getL at h
    split at h
    · rename_i e
      cases h
      rw [e]; exact List.mem_cons_self
    · exact List.mem_cons_of_mem _ (getL_mem h)
theorem getL_of {k : ByteArray} {v : α} : ∀ {L : List (ByteArray × α)}, Srt L → (k, v) ∈ L → getL k L = some v
  | [], _, h => by cases h
  | p :: L, hs, h => by
    obtain ⟨h1, h2⟩ := List.pairwise_cons.1 hs
    unfold getL
    rcases List.mem_cons.1 h with e | h
    · rw [← e, if_pos rfl]
    · have := h1 _ h
      rw [if_neg (fun e => by simp only at this; rw [e, klt_irr] at this; cases this)]
      exact getL_of h2 h
theorem getL_isSome {k : ByteArray} {L : List (ByteArray × α)} (hs : Srt L) : (getL k L).isSome = true ↔ ∃ p ∈ L, p.1 = k := by
  constructor
  · intro h
    obtain ⟨v, hv⟩ := Option.isSome_iff_exists.1 h
    exact ⟨_, getL_mem hv, rfl⟩
  · rintro ⟨p, hp, rfl⟩
    rw [getL_of (v := p.2) hs hp]; rfl
theorem delL_len {k : ByteArray} : ∀ {L : List (ByteArray × α)}, Srt L → (delL k L).length + (if (getL k L).isSome = true then 1 else 0) = L.length
  | [], _ => rfl
  | p :: L, h => by
    obtain ⟨h1, h2⟩ := List.pairwise_cons.1 h
    unfold getL
    by_cases he : k = p.1
    · have hd : delL k (p :: L) = L := by
        unfold delL
        rw [List.filter_cons, if_neg (by simp [he])]
        exact delL_id (fun a ha e => by
          have := h1 a ha
          rw [e, he, klt_irr] at this; cases this)
      rw [hd, if_pos he]; simp
    · have hd : delL k (p :: L) = p :: delL k L := by
        unfold delL
        rw [List.filter_cons, if_pos (by simpa using fun e => he e.symm)]
      have := delL_len (k := k) h2
      rw [hd, if_neg he, List.length_cons, List.length_cons]; omega
theorem getL_del {k j : ByteArray} : ∀ {L : List (ByteArray × α)}, getL j (delL k L) = if j = k then none else getL j L
  | [] => by unfold delL; simp [getL]
  | p :: L => by
    have ih := getL_del (k := k) (j := j) (L := L)
    by_cases he : p.1 = k
    · have hd : delL k (p :: L) = delL k L := by unfold delL; rw [List.filter_cons, if_neg (by simp [he])]
      rw [hd, ih]
      by_cases hj : j = k
      · rw [if_pos hj, if_pos hj]
      · rw [if_neg hj, if_neg hj, getL_cons, if_neg (fun e => hj (by rw [e, he]))]
    · have hd : delL k (p :: L) = p :: delL k L := by unfold delL; rw [List.filter_cons, if_pos (by simpa using he)]
      rw [hd, getL_cons, ih]
      by_cases hj : j = k
      · rw [if_pos hj, if_neg (fun e => he (by rw [← e, hj])), if_pos hj]
      · rw [if_neg hj, if_neg hj, getL_cons]
end
namespace Tr
variable {α : Type}
theorem ino_put {k : ByteArray} {v : α} : ∀ {T : Tr α}, Srt T.ino → (put k v T).ino = insL k v T.ino
  | .nil, _ => rfl
  | .node k' v' l r, h => by
    obtain ⟨h1, h2, h3, h4, h5⟩ := Srt.split h
    unfold put
    by_cases hk : klt k k' = true
    · rw [if_pos hk, ino_bal, ino_put h1]
      show _ = insL k v (l.ino ++ (k', v') :: r.ino)
      rw [insL_left (p := (k', v')) hk]
    · rw [if_neg hk]
      have hsk : ∀ a ∈ l.ino, klt a.1 k = true := fun a ha => by
        by_cases he : k = k'
        · rw [he]; exact h3 a ha
        · rcases klt_total he with e | e
          · exact absurd e hk
          · exact klt_trans (h3 a ha) e
      have hi : insL k v (l.ino ++ (k', v') :: r.ino) = l.ino ++ insL k v ((k', v') :: r.ino) := insL_skip _ hsk
      by_cases he : k = k'
      · rw [if_pos he]
        show _ = insL k v (l.ino ++ (k', v') :: r.ino)
        rw [hi]
        show l.ino ++ (k, v) :: r.ino = _
        congr 1
        unfold insL
        rw [if_neg hk, if_pos he]
      · rw [if_neg he, ino_bal, ino_put h2]
        show _ = insL k v (l.ino ++ (k', v') :: r.ino)
        rw [hi]
        congr 1
        conv => rhs; unfold insL
        rw [if_neg hk, if_neg he]
theorem lst_some {k v} {l r : Tr α} : ∃ p, lst (.node k v l r) = some p := by
  rw [lst_ino]
  cases h : (Tr.node k v l r).ino.getLast? with
  | some p => exact ⟨p, rfl⟩
  | none => rw [List.getLast?_eq_none_iff] at h; unfold ino at h; simp at h
theorem fst_some {k v} {l r : Tr α} : ∃ p, fst (.node k v l r) = some p := by
  rw [fst_ino]
  cases h : (Tr.node k v l r).ino.head? with
  | some p => exact ⟨p, rfl⟩
  | none => rw [List.head?_eq_none_iff] at h; unfold ino at h; simp at h
theorem del_last {A : List (ByteArray × α)} {p : ByteArray × α} (h : Srt A) (hp : A.getLast? = some p) : delL p.1 A ++ [p] = A := by
  obtain ⟨B, rfl⟩ := List.getLast?_eq_some_iff.1 hp
  obtain ⟨_, _, h3, _⟩ := Srt.split h
  rw [delL_append, delL_id (fun a ha e => by have := h3 a ha; rw [e, klt_irr] at this; cases this)]
  unfold delL
  rw [List.filter_cons, if_neg (by simp)]
  simp
theorem del_first {A : List (ByteArray × α)} {p : ByteArray × α} (h : Srt A) (hp : A.head? = some p) : p :: delL p.1 A = A := by
  cases A with
  | nil => cases hp
  | cons a A =>
    cases hp
    obtain ⟨h1, _⟩ := List.pairwise_cons.1 h
    have : delL p.1 (p :: A) = A := by
      unfold delL
      rw [List.filter_cons, if_neg (by simp)]
      exact delL_id (fun a ha e => by have := h1 a ha; rw [e, klt_irr] at this; cases this)
    rw [this]
theorem ino_glueW {l r : Tr α} {dl dr : ByteArray → Tr α} (hl : Srt l.ino) (hr : Srt r.ino) (h1 : ∀ k, (dl k).ino = delL k l.ino) (h2 : ∀ k, (dr k).ino = delL k r.ino) : (glueW l r dl dr).ino = l.ino ++ r.ino := by
  unfold glueW
  cases l with
  | nil => simp [ino]
  | node lk lv ll lr =>
    cases r with
    | nil => simp [ino]
    | node rk rv rl rr =>
      simp only
      split
      · obtain ⟨p, hp⟩ := lst_some (k := lk) (v := lv) (l := ll) (r := lr)
        rw [hp]
        simp only
        rw [ino_bal, h1]
        have := del_last hl ((lst_ino _).symm.trans hp)
        conv => rhs; rw [← this]
        simp
      · obtain ⟨p, hp⟩ := fst_some (k := rk) (v := rv) (l := rl) (r := rr)
        rw [hp]
        simp only
        rw [ino_bal, h2]
        have := del_first hr ((fst_ino _).symm.trans hp)
        rw [this]
theorem ino_del : ∀ {T : Tr α}, Srt T.ino → ∀ k, (del T k).ino = delL k T.ino
  | .nil, _, k => rfl
  | .node k' v' l r, h, k => by
    obtain ⟨h1, h2, h3, h4, h5⟩ := Srt.split h
    show _ = delL k (l.ino ++ (k', v') :: r.ino)
    rw [delL_append]
    unfold del
    by_cases hk : klt k k' = true
    · have hne : k' ≠ k := fun e => by rw [e, klt_irr] at hk; cases hk
      rw [if_pos hk, ino_bal, ino_del h1]
      congr 1
      refine (delL_id (L := (k', v') :: r.ino) fun a ha e => ?_).symm
      rcases List.mem_cons.1 ha with rfl | ha
      · exact hne e
      · have := klt_trans hk (h4 a ha)
        rw [e, klt_irr] at this; cases this
    · rw [if_neg hk]
      have hl : delL k l.ino = l.ino := delL_id fun a ha e => by
        by_cases he : k = k'
        · have := h3 a ha; rw [e, he, klt_irr] at this; cases this
        · rcases klt_total he with e2 | e2
          · exact hk e2
          · have := klt_trans (h3 a ha) e2; rw [e, klt_irr] at this; cases this
      by_cases he : k = k'
      · rw [if_pos he, ino_glueW h1 h2 (fun k => ino_del h1 k) (fun k => ino_del h2 k), hl]
        congr 1
        have e2 : delL k ((k', v') :: r.ino) = delL k r.ino := by unfold delL; rw [List.filter_cons, if_neg (by simp [he])]
        rw [e2]
        exact (delL_id fun a ha e => by have := h4 a ha; rw [e, he, klt_irr] at this; cases this).symm
      · rw [if_neg he, ino_bal, ino_del h2, hl]
        congr 1
        have e2 : delL k ((k', v') :: r.ino) = (k', v') :: delL k r.ino := by unfold delL; rw [List.filter_cons, if_pos (by simpa using fun e => he e.symm)]
        rw [e2]
theorem get_ino {k : ByteArray} : ∀ {T : Tr α}, Srt T.ino → get k T = getL k T.ino
  | .nil, _ => rfl
  | .node k' v' l r, h => by
    obtain ⟨h1, h2, h3, h4, h5⟩ := Srt.split h
    show _ = getL k (l.ino ++ (k', v') :: r.ino)
    rw [getL_append]
    unfold get
    by_cases hk : klt k k' = true
    · have hne : k ≠ k' := fun e => by rw [e, klt_irr] at hk; cases hk
      rw [if_pos hk, get_ino h1]
      have : getL k ((k', v') :: r.ino) = none := getL_none fun a ha e => by
        rcases List.mem_cons.1 ha with rfl | ha
        · exact hne e.symm
        · have := klt_trans hk (h4 a ha); rw [e, klt_irr] at this; cases this
      rw [this]; simp
    · rw [if_neg hk]
      have hl : getL k l.ino = none := getL_none fun a ha e => by
        by_cases he : k = k'
        · have := h3 a ha; rw [e, he, klt_irr] at this; cases this
        · rcases klt_total he with e2 | e2
          · exact hk e2
          · have := klt_trans (h3 a ha) e2; rw [e, klt_irr] at this; cases this
      rw [hl]
      by_cases he : k = k'
      · rw [if_pos he, getL_cons, if_pos he]; simp
      · rw [if_neg he, get_ino h2]
        rw [getL_cons, if_neg he]; simp
theorem place_ino {k : ByteArray} : ∀ {T : Tr α}, Srt T.ino → place k T = plc k T.ino
  | .nil, _ => rfl
  | .node k' v' l r, h => by
    obtain ⟨h1, h2, h3, h4, h5⟩ := Srt.split h
    show _ = plc k (l.ino ++ (k', v') :: r.ino)
    unfold plc
    rw [List.filter_append, List.length_append, List.filter_cons]
    unfold place
    by_cases hk : klt k' k = true
    · rw [if_pos hk, if_pos hk, place_ino h2, size_ino, List.length_cons]
      have : (l.ino.filter fun p => klt p.1 k) = l.ino := List.filter_eq_self.2 (fun a ha => klt_trans (h3 a ha) hk)
      rw [this]; unfold plc; omega
    · rw [if_neg hk, if_neg hk, place_ino h1]
      have : (r.ino.filter fun p => klt p.1 k) = [] := List.filter_eq_nil_iff.2 (fun a ha e => by
        by_cases he : k' = k
        · have := h4 a ha; rw [← he] at e; rw [klt_asym this] at e; cases e
        · rcases klt_total he with e2 | e2
          · exact hk e2
          · have := klt_trans e2 (h4 a ha); rw [klt_asym this] at e; cases e)
      rw [this]; unfold plc; simp
theorem size_bal (l : Tr α) (k : ByteArray) (v : α) (r : Tr α) : (bal l k v r).size = l.size + 1 + r.size := by
  rw [size_ino, ino_bal, List.length_append, List.length_cons, ← size_ino, ← size_ino]; omega
theorem size_put (k : ByteArray) (v : α) : ∀ T : Tr α, (put k v T).size ≤ T.size + 1
  | .nil => by show 0 + 1 + 0 ≤ 0 + 1; omega
  | .node k' v' l r => by
    show _ ≤ l.size + 1 + r.size + 1
    unfold put
    split
    · rw [size_bal]; have := size_put k v l; omega
    split
    · show l.size + 1 + r.size ≤ _; omega
    · rw [size_bal]; have := size_put k v r; omega
theorem size_glueW {l r : Tr α} {dl dr : ByteArray → Tr α} (h1 : ∀ k, (dl k).size ≤ l.size) (h2 : ∀ k, (dr k).size ≤ r.size) : (glueW l r dl dr).size ≤ l.size + 1 + r.size := by
  unfold glueW
  cases l with
  | nil => show r.size ≤ 0 + 1 + r.size; omega
  | node lk lv ll lr =>
    cases r with
    | nil => show (Tr.node lk lv ll lr).size ≤ _; omega
    | node rk rv rl rr =>
      simp only
      split
      · obtain ⟨p, hp⟩ := lst_some (k := lk) (v := lv) (l := ll) (r := lr)
        rw [hp]
        simp only
        rw [size_bal]
        have := h1 p.1
        omega
      · obtain ⟨p, hp⟩ := fst_some (k := rk) (v := rv) (l := rl) (r := rr)
        rw [hp]
        simp only
        rw [size_bal]
        have := h2 p.1
        omega
theorem size_del : ∀ (T : Tr α) (k : ByteArray), (del T k).size ≤ T.size
  | .nil, k => Nat.le_refl _
  | .node k' v' l r, k => by
    show _ ≤ l.size + 1 + r.size
    unfold del
    split
    · rw [size_bal]; have := size_del l k; omega
    split
    · exact size_glueW (fun k => size_del l k) (fun k => size_del r k)
    · rw [size_bal]; have := size_del r k; omega
end Tr
/-- Does k begin with p? -/
def preB (p k : ByteArray) : Bool := decide (p.size ≤ k.size) && ((k.extract 0 p.size).toList == p.toList)
theorem preB_empty (k : ByteArray) : preB .empty k = true := by
  have e : (ByteArray.empty).size = 0 := rfl
  have e2 : k.extract 0 0 = .empty := by
    apply ByteArray.ext
    simp
  unfold preB
  rw [e, e2]
  simp
namespace Tr
variable {α : Type}
def und (p : ByteArray) : Tr α → List (ByteArray × α)
  | .nil => []
  | .node k v l r => if preB p k = true then und p l ++ (k, v) :: und p r else if klt k p = true then und p r else und p l
theorem und_empty : ∀ T : Tr α, und .empty T = T.ino
  | .nil => rfl
  | .node k v l r => by
    unfold und ino
    rw [if_pos (preB_empty k), und_empty l, und_empty r]
end Tr
end Go.Proofs.Ythcjbljkokflgaa
namespace Go.Proofs.Ythcjbljkokflgaa
open Go.RowKit
theorem cell_lt {w : World} {p : Addr} {v : Value} (h : w.cell? p = some v) : p.block < w.heap.size := by
  rcases Nat.lt_or_ge p.block w.heap.size with hlt | hge
  · exact hlt
  · unfold World.cell? at h
    rw [Array.getElem?_eq_none hge] at h
    cases h
theorem add_plain (b off n : Nat) : (⟨b, off, none⟩ : Addr).add n = ⟨b, off + n, none⟩ := by
  unfold Addr.add
  split
  · next h => subst h; rfl
  · rfl
theorem slice_at {w : World} {A : Option Addr} {len cap n : Nat} {e : Sh} (S : Sh.ok w (.slice n e) [.slice A len cap]) (hn : 0 < n) :
    ∃ b off, len ≤ cap ∧ cap ≤ maxLen ∧ (0 < len → A = some ⟨b, off, none⟩ ∧ b < w.heap.size) ∧
      ∀ i, i < len → ∃ cs, cs.length = n ∧ Sh.ok w e cs ∧ ∀ j, j < n → w.cell? ⟨b, off + i * n + j, none⟩ = cs[j]? := by
  simp only [Sh.ok] at S
  rcases S with S | ⟨a, l, c, e1, hl, hm, hc⟩
  · simp at S
    obtain ⟨rfl, rfl, rfl⟩ := S
    exact ⟨0, 0, Nat.le_refl _, by unfold maxLen; omega, fun h => absurd h (by omega), fun i h => absurd h (by omega)⟩
  · simp at e1
    obtain ⟨rfl, rfl, rfl⟩ := e1
    rcases Nat.eq_zero_or_pos len with h0 | h0
    · exact ⟨0, 0, hl, hm, fun h => absurd h (by omega), fun i h => absurd h (by omega)⟩
    · obtain ⟨cs, hcs, _⟩ := hc 0 h0
      obtain ⟨_, hlen, hat⟩ := World.cells?_some hcs
      have h00 := hat 0 hn
      rw [List.getElem?_eq_getElem (by omega)] at h00
      have hsp : a.spot = none := by simpa [Addr.add] using World.cell?_spot h00
      have hlt := cell_lt h00
      obtain ⟨b, off, sp⟩ := a
      simp at hsp
      subst hsp
      refine ⟨b, off, hl, hm, fun _ => ⟨rfl, by simpa [Addr.add] using hlt⟩, fun i hi => ?_⟩
      obtain ⟨cs', hcs', hok⟩ := hc i hi
      obtain ⟨_, hlen', hat'⟩ := World.cells?_some hcs'
      refine ⟨cs', hlen', hok, fun j hj => ?_⟩
      have := hat' j hj
      rwa [add_plain, add_plain] at this
end Go.Proofs.Ythcjbljkokflgaa
