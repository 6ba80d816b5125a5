/- card: the order of fields, as a compare. -/
import Derived.Below
import Derived.ChangeSame
import Derived.WalkKit
import Derived.ProofKit
import Derived.Carry
import Derived.OpenShut
import Derived.Laws.OwnMore
import Derived.Deep.Draws
import Derived.Laws.Rows
import Derived.Test.YtlcchkpjcekinaaGreatDoorProg
import Derived.Lib.Hide
import Derived.KernelRfl
import Derived.BigQuiet
import Derived.RegionTactic
import Derived.Deep.QuietTactic
import Derived.IntWalk
import Derived.Laws.IdiomStrings
import Derived.Deep.RegionWith
/- The last step of a law's row, whatever its arguments' types: where the call leaves all that there was as it was ('Below'), each argument reads as it read before. No conditions. -/
namespace Go.Proofs.YtlcchkpjcekinaaGreatDoor
open Go.RowKit Go.WideShapes Go.ChangeShapes
section
variable {H : Type} {enc : TypeId × Value → H} {P : Program}

theorem trodAll_stays (hl : laidOutB P = true) {W W' : World} {sp : Nat → Bool} : ∀ {ts : List TypeId} {vs : List Value} {ds : List (DataW H)} {ps : List MemPlace},
    (∀ t ∈ ts, P.readableRec t = true ∧ t < P.types.size) → DataW.TrodAll enc P W 0 (fun _ => true) true ts vs ds ps → (∀ x ∈ ps, W.sameAt W' x) → (∀ x ∈ ps, sp x.block = true) → DataW.TrodAll enc P W' 0 sp true ts vs ds ps
  | [], [], [], _, _, h, _, _ => h
  | _ :: _, _ :: _, _ :: _, _, hT, ⟨p, q, h1, h2, e⟩, hsame, hs =>
    ⟨p, q, WideElems.Trod_stays hl (hT _ (List.mem_cons.2 (.inl rfl))).1 (hT _ (List.mem_cons.2 (.inl rfl))).2 h1 (fun x hx => hsame x (by rw [e]; exact List.mem_append_left _ hx)) (fun x hx => hs x (by rw [e]; exact List.mem_append_left _ hx)),
      trodAll_stays hl (fun t ht => hT t (List.mem_cons.2 (.inr ht))) h2 (fun x hx => hsame x (by rw [e]; exact List.mem_append_right _ hx)) (fun x hx => hs x (by rw [e]; exact List.mem_append_right _ hx)), e⟩

theorem post_of_below {f : Func} {s : ChangeSpec} {apart fresh handsOn again : Bool} {W W' : World} {args : Array Value} {v : Value} {ds gs : List (DataW H)} {before pa pv : List MemPlace}
    (hW : DataW.Whole enc P f.params.toList s.vars apart W args.toList ds gs before)
    (hres : ∀ (b : Nat) (sp : Nat → Bool) (hd : Bool), DataW.TrodAll enc P W' b sp hd f.resultTypes.toList (v.resultList f.resultTypes.size) (s.fn H (ds ++ gs)).results [])
    (hargs : ∀ sp : Nat → Bool, (∀ p ∈ before, sp p.block = true) → DataW.TrodAll enc P W' 0 sp true f.params.toList args.toList (s.fn H (ds ++ gs)).args pa)
    (hvars : ∀ sp : Nat → Bool, (∀ p ∈ before, sp p.block = true) → DataW.TrodVars enc P W' sp s.vars (s.fn H (ds ++ gs)).vars pv)
    (hps : before = pa ++ pv) (hb : Below W.heap.size W W')
    (hok : ∀ (j : Nat) (t : TypeId) (r : Value), f.resultTypes[j]? = some t → (v.resultList f.resultTypes.size)[j]? = some r → Value.okWide P W' .any 0 t r) :
    s.post enc P f apart fresh handsOn again W args v W' := by
  have hlt : ∀ p ∈ before, p.block < W.heap.size := fun p hp => hW.lt p hp
  have hold : ∀ p ∈ before, (fun b => decide (b < W.heap.size)) p.block = true := fun p hp => by simpa using hlt p hp
  refine ⟨ds, gs, before, [], pa, pv, hW, hres _ _ _, hargs _ hold, hvars _ hold, World.keptBut_mono (fun p hp => ⟨hp, ?_⟩) (hb.frame (· ∈ before)), fun _ => ?_⟩
  · rw [hps, List.mem_append] at hp
    exact Or.inr hp
  · obtain ⟨_, _, _, _, _, hz, hn⟩ := hW
    refine ⟨hok, _, _, ([] ++ pa) ++ pv, ⟨[] ++ pa, pv, trodAll_append (hargs _ (fun _ _ => rfl)) (hres _ _ _), hvars _ (fun _ _ => rfl), rfl, ?_, ?_⟩, ?_⟩
    · intro b off hp
      have hin : MemPlace.cell b off ∈ before := by rw [hps]; simpa using hp
      rw [hb.frozen (hlt _ hin)]
      exact hz b off hin
    · intro ha
      have := hn ha
      rw [hps] at this
      simpa using this
    · intro p hp _
      rw [hps]
      simpa using hp

/-- A law: true, and the arguments as they were. 'hA': the arguments' reading before the call. -/
theorem law_post {f : Func} {s : ChangeSpec} {handsOn again : Bool} {W W' : World} {args : Array Value} {ds : List (DataW H)} {before : List MemPlace} {tb : TypeId}
    (hl : laidOutB P = true) (hp : (f.params.toList.all fun t => P.readableRec t && decide (t < P.types.size)) = true)
    (hr : f.resultTypes = #[tb]) (hb4 : P.underlying tb = some .bool) (hs : s.vars = [])
    (hW : DataW.Whole enc P f.params.toList s.vars false W args.toList ds [] before)
    (hfn : s.fn H ds = { results := [.lit (.bool true)], args := ds }) (hb : Below W.heap.size W W') :
    s.post enc P f false true handsOn again W args (.bool true) W' := by
  have hlt : ∀ p ∈ before, p.block < W.heap.size := fun p hp => hW.lt p hp
  have hW' := hW
  obtain ⟨p, q, hA, hV, hpq, _, _⟩ := hW
  rw [hs] at hV
  obtain ⟨_, hq⟩ := trodVars_none hV
  subst hq
  rw [List.append_nil] at hpq
  subst hpq
  refine post_of_below (pa := before) (pv := []) hW' (fun _ _ _ => ?_) (fun sp hsp => ?_) (fun _ _ => ?_) (by simp) hb ?_
  · rw [List.append_nil, hfn, hr]
    exact trodAll_cons_mk (shut_bool hb4 _) trodAll_mk0
  · rw [List.append_nil, hfn]
    exact trodAll_stays hl (fun t ht => by have := List.all_eq_true.1 hp t ht; simpa using this) hA (fun x hx => hb.same (hlt x hx)) hsp
  · rw [List.append_nil, hfn, hs]
    exact rfl
  · exact ok_one hr rfl (okWide_bool_mk hb4 _)
end
end Go.Proofs.YtlcchkpjcekinaaGreatDoor
/- What an argument that can be read as data is: integers in their range, bools, strings, structs of these, slices of these, cell by cell. -/
namespace Go.Proofs.YtlcchkpjcekinaaGreatDoor
open Go.RowKit Go.WideShapes Go.ChangeShapes

inductive Sh where
  | int (k : IntKind)
  | bool
  | str
  | agg (n : Nat) (l : List (Nat × Nat × Sh))
  | slice (n : Nat) (e : Sh)

mutual
def Sh.ok (w : World) : Sh → List Value → Prop
  | .int k, cs => ∃ a, cs = [.int k a] ∧ (Lit.int k a).wf = true
  | .bool, cs => ∃ b, cs = [.bool b]
  | .str, cs => ∃ s : ByteArray, cs = [.string s] ∧ s.size ≤ maxLen
  | .agg n l, cs => cs.length = n ∧ Sh.okAll w l cs
  | .slice n e, cs => cs = [.slice none 0 0] ∨ ∃ (a : Addr) (len cap : Nat), cs = [.slice (some a) len cap] ∧ len ≤ cap ∧ cap ≤ maxLen ∧
      ∀ i, i < len → ∃ cs', w.cells? 0 (a.add (i * n)) n = some cs' ∧ Sh.ok w e cs'
def Sh.okAll (w : World) : List (Nat × Nat × Sh) → List Value → Prop
  | [], _ => True
  | (o, n, s) :: r, cs => Sh.ok w s ((cs.drop o).take n) ∧ Sh.okAll w r cs
end

def shAll (P : Program) (sh : TypeId → Option Sh) : List Field → Option (List (Nat × Nat × Sh))
  | [] => some []
  | f :: r => match sh f.type, shAll P sh r with
    | some s, some l => some ((f.offset, P.cellsOf f.type, s) :: l)
    | _, _ => none
def sh (P : Program) : Nat → TypeId → Option Sh
  | 0, _ => none
  | n + 1, t => match P.underlying t with
    | some (.int k) => some (.int k)
    | some .bool => some .bool
    | some .string => some .str
    | some (.struct fs) => match shAll P (sh P n) fs.toList with
      | some l => some (.agg (P.cellsOf t) l)
      | none => none
    | some (.slice e) => match sh P n e with
      | some s => some (.slice (P.cellsOf e) s)
      | none => none
    | _ => none

section
variable {H : Type} {enc : TypeId × Value → H} {P : Program} {w : World} {spare : Nat → Bool} {held : Bool}
theorem shAll_ok {F : TypeId → Option Sh} {n : Nat} {cs : List Value} (hF : ∀ t s cs x, F t = some s → DataW.trod enc P w 0 spare held n t cs = some x → Sh.ok w s cs) :
    ∀ (fs : List Field) (l : List (Nat × Nat × Sh)), shAll P F fs = some l → (∀ f ∈ fs, ∃ x, DataW.trod enc P w 0 spare held n f.type ((cs.drop f.offset).take (P.cellsOf f.type)) = some x) → Sh.okAll w l cs
  | [], l, h, _ => by
    simp only [shAll, Option.some.injEq] at h
    subst h
    simp [Sh.okAll]
  | f :: r, l, h, hx => by
    simp only [shAll] at h
    split at h
    next s l' h1 h2 =>
      simp only [Option.some.injEq] at h
      subst h
      obtain ⟨x, hx0⟩ := hx f (List.mem_cons.2 (.inl rfl))
      simp only [Sh.okAll]
      exact ⟨hF _ _ _ _ h1 hx0, shAll_ok hF r l' h2 (fun g hg => hx g (List.mem_cons.2 (.inr hg)))⟩
    next => cases h

theorem sh_ok : ∀ (m : Nat) (t : TypeId) (s : Sh) (n : Nat) (cs : List Value) (x : DataW H × List MemPlace), sh P m t = some s → DataW.trod enc P w 0 spare held n t cs = some x → Sh.ok w s cs := by
  intro m
  induction m with
  | zero => intro t s n cs x h; simp [sh] at h
  | succ m ih =>
    intro t s n cs x h hx
    simp only [sh] at h
    split at h
    next k hk =>
      simp only [Option.some.injEq] at h
      subst h
      obtain ⟨a, h1, _, h3⟩ := DataW.trod_int hk hx
      simp only [Sh.ok]
      exact ⟨a, h1, h3⟩
    next hk =>
      simp only [Option.some.injEq] at h
      subst h
      obtain ⟨a, h1, _⟩ := DataW.trod_bool hk hx
      simp only [Sh.ok]
      exact ⟨a, h1⟩
    next hk =>
      simp only [Option.some.injEq] at h
      subst h
      obtain ⟨a, h1, _, h3⟩ := DataW.trod_string hk hx
      simp only [Sh.ok]
      exact ⟨a, h1, h3⟩
    next fs hk =>
      split at h
      next l hl =>
        simp only [Option.some.injEq] at h
        subst h
        obtain ⟨xs, n', _, _, hlen, hxl, hat⟩ := DataW.trod_struct hk hx
        simp only [Sh.ok]
        refine ⟨hlen, shAll_ok (n := n') (fun t s cs x h1 h2 => ih t s n' cs x h1 h2) fs.toList l hl (fun f hf => ?_)⟩
        obtain ⟨i, hi, e⟩ := List.mem_iff_getElem.1 hf
        have hi' : i < fs.size := by simpa using hi
        have h1 : fs[i]? = some f := by rw [Array.getElem?_eq_getElem hi']; simp at e; rw [e]
        have h2 := hat i f h1
        rw [h2]
        exact ⟨_, List.getElem?_eq_getElem (by omega)⟩
      next => cases h
    next e hk =>
      split at h
      next s' hs' =>
        simp only [Option.some.injEq] at h
        subst h
        simp only [Sh.ok]
        rcases DataW.trod_slice hk hx with ⟨h1, _⟩ | ⟨a, len, cap, elems, rest, n', _, h1, _, _, hl, hm, hel, hc, _⟩
        · exact .inl h1
        · refine .inr ⟨a, len, cap, h1, hl, hm, fun i hi => ?_⟩
          have h2 := hc i hi
          rw [List.getElem?_eq_getElem (by omega)] at h2
          obtain ⟨cs', h3, h4⟩ := Option.bind_eq_some_iff.1 h2
          exact ⟨cs', h3, ih e s' n' cs' _ hs' h4⟩
      next => cases h
    next => cases h

/-- An argument: its cells are of its type's shape. -/
theorem arg_ok {t : TypeId} {s : Sh} {v : Value} {d : DataW H} {p : List MemPlace} (m : Nat) (hs : sh P m t = some s) (h : DataW.Trod enc P w 0 spare held t v d p) : Sh.ok w s v.cells.toList := by
  obtain ⟨n, hn⟩ := h
  exact sh_ok m t s n _ _ hs hn
end
theorem cells_lt {w : World} {a : Addr} {n : Nat} {cs : List Value} (h : w.cells? 0 a n = some cs) {j : Nat} (hj : j < n) : w.cell? (a.add j) = cs[j]? := by
  obtain ⟨_, hl, hat⟩ := World.cells?_some h
  exact hat j hj
end Go.Proofs.YtlcchkpjcekinaaGreatDoor
namespace Go.Proofs.YtlcchkpjcekinaaGreatDoor
open Go.RowKit

def Blk (w : World) (g : Nat) (t : TypeId) (cs : Array Value) : Prop := w.heap[g]? = some (.cells cs t (0, 0))
section
variable {w w' : World} {g : Nat} {t : TypeId} {cs : Array Value}
theorem Blk.lt (h : Blk w g t cs) : g < w.heap.size := by
  rcases Nat.lt_or_ge g w.heap.size with hlt | hge
  · exact hlt
  · unfold Blk at h; rw [Array.getElem?_eq_none hge] at h; cases h
theorem Blk.cell (h : Blk w g t cs) (i : Nat) : w.cell? ⟨g, i, none⟩ = cs[i]? := cell_of_row w g i cs t (0, 0) h
theorem Blk.frozen (h : Blk w g t cs) (i : Nat) : w.frozen? ⟨g, i, none⟩ = false := by
  unfold Blk at h
  simp [World.frozen?, h]
theorem Blk.new (w : World) (t : TypeId) (cs : Array Value) : Blk (w.alloc (.cells cs t)) w.heap.size t cs := heap_alloc_new w _
theorem Blk.drew (h : Blk w g t cs) : Blk w.drew g t cs := h
theorem Blk.drewN (h : Blk w g t cs) (n : Nat) : Blk (w.drewN n) g t cs := h
theorem Blk.alloc (h : Blk w g t cs) (o : Obj) : Blk (w.alloc o) g t cs := (Below.heap_alloc w o g h.lt).trans h
theorem Blk.set_ (h : Blk w g t cs) (i : Nat) (u : Value) : Blk (w.setCell ⟨g, i, none⟩ u) g t (cs.setIfInBounds i u) := by
  unfold Blk at h ⊢
  simp [World.setCell, Array.getElem?_modify, h]
theorem Blk.far (h : Blk w g t cs) {p : Addr} (hp : g ≠ p.block) (u : Value) : Blk (w.setCell p u) g t cs := (Below.heap_setCell w p u g hp).trans h
theorem Blk.below {B : Nat} (h : Blk w g t cs) (hb : Below B w w') (hg : g < B) : Blk w' g t cs := (hb.block g hg).trans h
theorem Blk.grown {row : Option Nat} (h : Blk w g t cs) (hb : w.grownBy w' row) (hg : some g ≠ row) : Blk w' g t cs := (hb.block g h.lt hg).trans h
end
theorem below_drewN {B : Nat} {a w : World} (h : Below B a w) (n : Nat) : Below B a (w.drewN n) := ⟨h.os, h.tape, h.output, h.size, h.block⟩
theorem only_drewN {a w : World} {row : Option Nat} (h : a.grownBy w row) (n : Nat) : a.grownBy (w.drewN n) row := ⟨h.os, h.tape, h.output, h.size, h.block⟩
theorem only_setCell {a w : World} {g : Nat} (h : a.grownBy w (some g)) {p : Addr} (hp : p.block = g ∨ a.heap.size ≤ p.block) (u : Value) : a.grownBy (w.setCell p u) (some g) :=
  ⟨h.os, h.tape, h.output, by simpa [World.setCell] using h.size, fun i hi hne => (Below.heap_setCell w p u i (by
    rintro rfl
    rcases hp with hp | hp
    · exact hne (by rw [hp])
    · omega)).trans (h.block i hi hne)⟩
theorem ret_u64 {a b : Int} (h : a = b) : Ending.returned (Value.int .u64 a) = .returned (.int .u64 b) := by rw [h]
theorem ret_i64 {a b : Int} (h : a = b) : Ending.returned (Value.int .i64 a) = .returned (.int .i64 b) := by rw [h]
theorem ret_bool {a b : Bool} (h : a = b) : Ending.returned (Value.bool a) = .returned (.bool b) := by rw [h]
end Go.Proofs.YtlcchkpjcekinaaGreatDoor
/- A slice that came in, element by element, cell by cell: at plain addresses of a block that was there. -/
namespace Go.Proofs.YtlcchkpjcekinaaGreatDoor
open Go.RowKit
theorem cell_lt {w : World} {p : Addr} {v : Value} (h : w.cell? p = some v) : p.block < w.heap.size := by
  rcases Nat.lt_or_ge p.block w.heap.size with hlt | hge
  · exact hlt
  · unfold World.cell? at h
    rw [Array.getElem?_eq_none hge] at h
    cases h
theorem add_plain (b off n : Nat) : (⟨b, off, none⟩ : Addr).add n = ⟨b, off + n, none⟩ := by
  unfold Addr.add
  split
  · next h => subst h; rfl
  · rfl
theorem slice_at {w : World} {A : Option Addr} {len cap n : Nat} {e : Sh} (S : Sh.ok w (.slice n e) [.slice A len cap]) (hn : 0 < n) :
    ∃ b off, len ≤ cap ∧ cap ≤ maxLen ∧ (0 < len → A = some ⟨b, off, none⟩ ∧ b < w.heap.size) ∧
      ∀ i, i < len → ∃ cs, cs.length = n ∧ Sh.ok w e cs ∧ ∀ j, j < n → w.cell? ⟨b, off + i * n + j, none⟩ = cs[j]? := by
  simp only [Sh.ok] at S
  rcases S with S | ⟨a, l, c, e1, hl, hm, hc⟩
  · simp at S
    obtain ⟨rfl, rfl, rfl⟩ := S
    exact ⟨0, 0, Nat.le_refl _, by unfold maxLen; omega, fun h => absurd h (by omega), fun i h => absurd h (by omega)⟩
  · simp at e1
    obtain ⟨rfl, rfl, rfl⟩ := e1
    rcases Nat.eq_zero_or_pos len with h0 | h0
    · exact ⟨0, 0, hl, hm, fun h => absurd h (by omega), fun i h => absurd h (by omega)⟩
    · obtain ⟨cs, hcs, _⟩ := hc 0 h0
      obtain ⟨_, hlen, hat⟩ := World.cells?_some hcs
      have h00 := hat 0 hn
      rw [List.getElem?_eq_getElem (by omega)] at h00
      have hsp : a.spot = none := by simpa [Addr.add] using World.cell?_spot h00
      have hlt := cell_lt h00
      obtain ⟨b, off, sp⟩ := a
      simp at hsp
      subst hsp
      refine ⟨b, off, hl, hm, fun _ => ⟨rfl, by simpa [Addr.add] using hlt⟩, fun i hi => ?_⟩
      obtain ⟨cs', hcs', hok⟩ := hc i hi
      obtain ⟨_, hlen', hat'⟩ := World.cells?_some hcs'
      refine ⟨cs', hlen', hok, fun j hj => ?_⟩
      have := hat' j hj
      rwa [add_plain, add_plain] at this
end Go.Proofs.YtlcchkpjcekinaaGreatDoor
/- Texts: small letters. -/
namespace Go.Proofs.YtlcchkpjcekinaaGreatDoor
open Go.RowKit
set_option linter.unusedVariables false
set_option maxRecDepth 100000
def low (c : UInt8) : UInt8 := if 65 ≤ (c.toNat : Int) ∧ (c.toNat : Int) ≤ 90 then UInt8.ofNat (c.toNat + 32) else c
def lowL (l : List UInt8) : List UInt8 := l.map low
def lowS (s : ByteArray) : ByteArray := ⟨(lowL s.data.toList).toArray⟩
theorem bs_ext {a b : ByteArray} (h : a.data.toList = b.data.toList) : a = b := ByteArray.ext (Array.toList_inj.1 h)
theorem bs_size (a : ByteArray) : a.size = a.data.toList.length := by simp
/-- A row of the call's own that reads as l. -/
def Row (w : World) (g m : Nat) (l : List UInt8) : Prop := ∃ C : Array Value, w.heap[g]? = some (.cells C 5 (m, m + 1)) ∧ C.size = m ∧ l.length ≤ m ∧ ∀ (j : Nat) (u : UInt8), l[j]? = some u → C[j]? = some (.int .u8 (u.toNat : Int))
theorem Row.cell {w : World} {g m : Nat} {l : List UInt8} (h : Row w g m l) {j : Nat} {u : UInt8} (hj : l[j]? = some u) : w.cell? ⟨g, j, none⟩ = some (.int .u8 (u.toNat : Int)) ∧ w.frozen? ⟨g, j, none⟩ = false := by
  obtain ⟨C, h1, h2, h3, h4⟩ := h
  have hlt := (List.getElem?_eq_some_iff.1 hj).1
  refine ⟨by rw [cell_of_row w g j C 5 _ h1]; exact h4 j u hj, ?_⟩
  simp [World.frozen?, h1]
  omega
theorem Row.set {w : World} {g m : Nat} {l : List UInt8} (h : Row w g m l) (k : Nat) (u : UInt8) : Row (w.setCell ⟨g, k, none⟩ (.int .u8 (u.toNat : Int))) g m (l.set k u) := by
  obtain ⟨C, h1, h2, h3, h4⟩ := h
  refine ⟨C.setIfInBounds k (.int .u8 (u.toNat : Int)), by simp [World.setCell, Array.getElem?_modify, h1], by rw [Array.size_setIfInBounds]; exact h2, by rw [List.length_set]; exact h3, fun j v hj => ?_⟩
  rw [List.getElem?_set] at hj
  rw [Array.getElem?_setIfInBounds]
  by_cases e : k = j
  · subst e
    rw [if_pos rfl] at hj
    by_cases hk : k < l.length
    · rw [if_pos hk] at hj
      cases hj
      rw [if_pos rfl, if_pos (by omega)]
    · rw [if_neg hk] at hj; cases hj
  · rw [if_neg e] at hj
    rw [if_neg e]
    exact h4 j v hj
theorem row_str (w : World) (s : ByteArray) (cap : Nat) (hc : s.size ≤ cap) (g : Nat) (hg : w.heap.size = g) : Row (w.alloc (.cells (bytesRow s cap) 5 ((bytesRow s cap).size, (bytesRow s cap).size + 1))) g cap s.data.toList := by
  have hz : (bytesRow s cap).size = cap := by unfold bytesRow; simp; omega
  refine ⟨bytesRow s cap, by rw [← hg]; simpa [hz] using heap_alloc_new w (.cells (bytesRow s cap) 5 ((bytesRow s cap).size, (bytesRow s cap).size + 1)), hz, by simpa using hc, fun j u hj => ?_⟩
  have hlt := (List.getElem?_eq_some_iff.1 hj).1
  rw [bytesRow_at s cap j (by simpa using hlt)]
  have := (List.getElem?_eq_some_iff.1 hj).2
  simp at this
  rw [← this]
theorem row_conv {w : World} {g m : Nat} {l : List UInt8} (h : Row w g m l) (cap : Nat) : (convert 73 9 (.slice (some ⟨g, 0, none⟩) l.length cap)).run Tryz.prog w = .ok (.string ⟨l.toArray⟩) w :=
  run_convert_bytes_back _ 73 9 5 _ cap l Tryz.underlying73 Tryz.underlying5 Tryz.underlying9 (fun j hj => by
    have := (h.cell (j := j) (List.getElem?_eq_getElem hj)).1
    rw [add_plain, Nat.zero_add]
    simpa using this)
/-- What stands there after k bytes. -/
def part (l : List UInt8) (k : Nat) : List UInt8 := lowL (l.take k) ++ l.drop k
theorem part_len (l : List UInt8) (k : Nat) : (part l k).length = l.length := by unfold part lowL; simp; omega
theorem part_at (l : List UInt8) (k : Nat) (hk : k < l.length) : (part l k)[k]? = some l[k] := by
  unfold part lowL
  rw [List.getElem?_append_right (by simp; omega)]
  simp [Nat.min_eq_left (Nat.le_of_lt hk)]
theorem part_set (l : List UInt8) (k : Nat) (hk : k < l.length) : (part l k).set k (low l[k]) = part l (k + 1) := by
  apply List.ext_getElem?
  intro j
  rw [List.getElem?_set]
  unfold part lowL
  by_cases e : k = j
  · subst e
    rw [if_pos rfl, if_pos (by simp; omega), List.getElem?_append_left (by simp; omega)]
    simp [hk]
  · rw [if_neg e]
    by_cases hj : j < k
    · rw [List.getElem?_append_left (by simp; omega), List.getElem?_append_left (by simp; omega)]
      simp [hj, show j < k + 1 by omega]
    · rw [List.getElem?_append_right (by simp; omega), List.getElem?_append_right (by simp; omega)]
      simp only [List.length_map, List.length_take, List.getElem?_drop]
      congr 1
      omega
theorem part_same (l : List UInt8) (k : Nat) (hk : k < l.length) (h : low l[k] = l[k]) : part l (k + 1) = part l k := by
  rw [← part_set l k hk, h]
  apply List.ext_getElem?
  intro j
  rw [List.getElem?_set]
  by_cases e : k = j
  · subst e
    rw [if_pos rfl, if_pos (by rw [part_len]; exact hk), part_at l k hk]
  · rw [if_neg e]
end Go.Proofs.YtlcchkpjcekinaaGreatDoor
/- Lines of a contact: the words of kinds and labels. -/
namespace Go.Proofs.YtlcchkpjcekinaaGreatDoor
open Go.RowKit
open Go.Lib
set_option linter.unusedVariables false
set_option maxRecDepth 20000
def kindW (k : Int) : ByteArray := if k = 1 then ⟨#[110, 97, 109, 101]⟩ else if k = 2 then ⟨#[111, 114, 103]⟩ else if k = 3 then ⟨#[116, 101, 108]⟩ else if k = 4 then ⟨#[109, 97, 105, 108]⟩ else if k = 5 then ⟨#[100, 97, 121]⟩ else if k = 6 then ⟨#[110, 111, 116, 101]⟩ else ⟨#[]⟩
def labelW (k : Int) : ByteArray := if k = 1 then ⟨#[104, 111, 109, 101]⟩ else if k = 2 then ⟨#[119, 111, 114, 107]⟩ else if k = 3 then ⟨#[99, 101, 108, 108]⟩ else ⟨#[]⟩
def headW (k l : Int) : ByteArray := if l = 0 then kindW k else (kindW k ++ ⟨#[59]⟩) ++ labelW l
def labelledB (k l : Int) : Bool := if l = 0 then true else if l = 1 ∨ l = 2 then (k == 4 || k == 3) else if l = 3 then k == 3 else false
theorem kindW_size (k : Int) : ((kindW k).size : Int) ≤ 4 := by
  unfold kindW
  repeat' split
  all_goals decide
theorem labelW_size (k : Int) : ((labelW k).size : Int) ≤ 4 := by
  unfold labelW
  repeat' split
  all_goals decide
theorem kindWord_any (k : Int) (w : World) : Calls Tryz.prog 70 #[.int .i64 k] w fun e w' => e = .returned (.string (kindW k)) ∧ w' = w := by
  by_cases h1 : k = 1
  · subst h1; go_enter Tryz.func70, Tryz.ntmps70; go_wp2; go_ret; exact ⟨rfl, rfl⟩
  by_cases h2 : k = 2
  · subst h2; go_enter Tryz.func70, Tryz.ntmps70; go_wp2; go_ret; exact ⟨rfl, rfl⟩
  by_cases h3 : k = 3
  · subst h3; go_enter Tryz.func70, Tryz.ntmps70; go_wp2; go_ret; exact ⟨rfl, rfl⟩
  by_cases h4 : k = 4
  · subst h4; go_enter Tryz.func70, Tryz.ntmps70; go_wp2; go_ret; exact ⟨rfl, rfl⟩
  by_cases h5 : k = 5
  · subst h5; go_enter Tryz.func70, Tryz.ntmps70; go_wp2; go_ret; exact ⟨rfl, rfl⟩
  by_cases h6 : k = 6
  · subst h6; go_enter Tryz.func70, Tryz.ntmps70; go_wp2; go_ret; exact ⟨rfl, rfl⟩
  have H0 := Lib.hid (show kindW k = ⟨#[]⟩ by unfold kindW; rw [if_neg h1, if_neg h2, if_neg h3, if_neg h4, if_neg h5, if_neg h6])
  have d1 : (k == 1) = false := by simpa using h1
  have d2 : (k == 2) = false := by simpa using h2
  have d3 : (k == 3) = false := by simpa using h3
  have d4 : (k == 4) = false := by simpa using h4
  have d5 : (k == 5) = false := by simpa using h5
  have d6 : (k == 6) = false := by simpa using h6
  clear h1 h2 h3 h4 h5 h6
  go_enter Tryz.func70, Tryz.ntmps70; go_wp2; go_ret
  exact ⟨by rw [H0.out]; rfl, rfl⟩
theorem labelWord_any (k : Int) (w : World) : Calls Tryz.prog 71 #[.int .i64 k] w fun e w' => e = .returned (.string (labelW k)) ∧ w' = w := by
  by_cases h1 : k = 1
  · subst h1; go_enter Tryz.func71, Tryz.ntmps71; go_wp2; go_ret; exact ⟨rfl, rfl⟩
  by_cases h2 : k = 2
  · subst h2; go_enter Tryz.func71, Tryz.ntmps71; go_wp2; go_ret; exact ⟨rfl, rfl⟩
  by_cases h3 : k = 3
  · subst h3; go_enter Tryz.func71, Tryz.ntmps71; go_wp2; go_ret; exact ⟨rfl, rfl⟩
  have H0 := Lib.hid (show labelW k = ⟨#[]⟩ by unfold labelW; rw [if_neg h1, if_neg h2, if_neg h3])
  have d1 : (k == 1) = false := by simpa using h1
  have d2 : (k == 2) = false := by simpa using h2
  have d3 : (k == 3) = false := by simpa using h3
  clear h1 h2 h3
  go_enter Tryz.func71, Tryz.ntmps71; go_wp2; go_ret
  exact ⟨by rw [H0.out]; rfl, rfl⟩
theorem head_any (k l : Int) (w : World) : Calls Tryz.prog 49 #[.int .i64 k, .int .i64 l] w fun e w' => e = .returned (.string (headW k l)) ∧ w' = w := by
  have HK := Lib.hid (fun w => kindWord_any k w)
  have HL := Lib.hid (fun w => labelWord_any l w)
  have hk := kindW_size k
  have hl := labelW_size l
  have H := Lib.hid (show headW k l = if l = 0 then kindW k else (kindW k ++ ⟨#[59]⟩) ++ labelW l from rfl)
  obtain ⟨A, hA⟩ : ∃ A, kindW k = A := ⟨_, rfl⟩
  obtain ⟨B, hB⟩ : ∃ B, labelW l = B := ⟨_, rfl⟩
  rw [hA] at HK hk H
  rw [hB] at HL hl H
  clear hA hB
  have z : ((⟨#[59]⟩ : ByteArray).size : Int) = 1 := rfl
  have hA1 : ((A ++ (⟨#[59]⟩ : ByteArray)).size : Int) ≤ 5 := by rw [ByteArray.size_append]; omega
  by_cases h : l = 0
  · subst h
    have H0 := Lib.hid (show headW k 0 = A by rw [H.out, if_pos rfl])
    go_enter Tryz.func49, Tryz.ntmps49
    go_wp2_with (go_at_call 70; (with_reducible refine (HK.out _).mono ?_); rintro e w1 ⟨rfl, hw⟩; replace hw := hw.symm; subst hw)
    go_ret
    exact ⟨by rw [H0.out]; rfl, rfl⟩
  · have H0 := Lib.hid (show headW k l = (A ++ ⟨#[59]⟩) ++ B by rw [H.out, if_neg h])
    have d : (l == 0) = false := by simpa using h
    clear h
    go_enter Tryz.func49, Tryz.ntmps49
    go_wp2_with (first | (go_at_call 70; (with_reducible refine (HK.out _).mono ?_); rintro e w1 ⟨rfl, hw⟩; replace hw := hw.symm; subst hw) | (go_at_call 71; (with_reducible refine (HL.out _).mono ?_); rintro e w1 ⟨rfl, hw⟩; replace hw := hw.symm; subst hw))
    go_ret
    exact ⟨by rw [H0.out]; rfl, rfl⟩
theorem labelled_any (k l : Int) (w : World) : Calls Tryz.prog 85 #[.int .i64 k, .int .i64 l] w fun e w' => e = .returned (.bool (labelledB k l)) ∧ w' = w := by
  obtain ⟨a, ha⟩ : ∃ a, (k == 4) = a := ⟨_, rfl⟩
  obtain ⟨b, hb⟩ : ∃ b, (k == 3) = b := ⟨_, rfl⟩
  have H := Lib.hid (show labelledB k l = if l = 0 then true else if l = 1 ∨ l = 2 then (a || b) else if l = 3 then b else false by rw [← ha, ← hb]; rfl)
  by_cases h0 : l = 0
  · subst h0
    have H0 := Lib.hid (show labelledB k 0 = true from rfl)
    go_enter Tryz.func85, Tryz.ntmps85; go_wp2; go_ret
    exact ⟨by rw [H0.out]; rfl, rfl⟩
  have d0 : (l == 0) = false := by simpa using h0
  by_cases h1 : l = 1
  · subst h1
    have H0 := Lib.hid (show labelledB k 1 = (a || b) by rw [H.out]; rfl)
    cases a <;> cases b
    all_goals (
      go_enter Tryz.func85, Tryz.ntmps85; go_wp2; go_ret
      exact ⟨by rw [H0.out]; rfl, rfl⟩)
  by_cases h2 : l = 2
  · subst h2
    have H0 := Lib.hid (show labelledB k 2 = (a || b) by rw [H.out]; rfl)
    cases a <;> cases b
    all_goals (
      go_enter Tryz.func85, Tryz.ntmps85; go_wp2; go_ret
      exact ⟨by rw [H0.out]; rfl, rfl⟩)
  by_cases h3 : l = 3
  · subst h3
    have H0 := Lib.hid (show labelledB k 3 = b by rw [H.out]; rfl)
    cases b
    all_goals (
      go_enter Tryz.func85, Tryz.ntmps85; go_wp2; go_ret
      exact ⟨by rw [H0.out]; rfl, rfl⟩)
  have H0 := Lib.hid (show labelledB k l = false by rw [H.out, if_neg h0, if_neg (by omega), if_neg h3])
  have d1 : (l == 1) = false := by simpa using h1
  have d2 : (l == 2) = false := by simpa using h2
  have d3 : (l == 3) = false := by simpa using h3
  clear h0 h1 h2 h3
  go_enter Tryz.func85, Tryz.ntmps85; go_wp2; go_ret
  exact ⟨by rw [H0.out]; rfl, rfl⟩
end Go.Proofs.YtlcchkpjcekinaaGreatDoor
/- Dates, as plain numbers; what is said of a year, a month, a day and a date. -/
namespace Go.Proofs.YtlcchkpjcekinaaGreatDoor.Day
open Go.RowKit
set_option linter.unusedVariables false
set_option maxRecDepth 20000
def leapB (y : Int) : Bool := decide (1 ≤ y ∧ y ≤ 9999 ∧ y % 4 = 0 ∧ (y % 100 ≠ 0 ∨ y % 400 = 0))
def dim (y m : Int) : Int := if m = 2 then (if y = 0 ∨ leapB y = true then 29 else 28) else if m = 4 ∨ m = 6 ∨ m = 9 ∨ m = 11 then 30 else 31
def mayB (y m d : Int) : Bool := decide (0 ≤ y ∧ y ≤ 9999 ∧ 1 ≤ m ∧ m ≤ 12 ∧ 1 ≤ d ∧ d ≤ dim y m)
def cumN (y : Int) : Nat → Int
  | 0 => 0
  | k + 1 => cumN y k + dim y ((k : Int) + 1)
def base (y : Int) : Int := (y - 1) * 365 + (y - 1) / 4 - (y - 1) / 100 + (y - 1) / 400
def cnt (y m d : Int) : Int := if mayB y m d = true ∧ y ≠ 0 then base y + cumN y (m - 1).toNat + d - 1 else -1
theorem dim_bd (y m : Int) : 28 ≤ dim y m ∧ dim y m ≤ 31 := by
  unfold dim; split <;> split <;> omega
theorem cum_bd (y : Int) (k : Nat) : 0 ≤ cumN y k ∧ cumN y k ≤ 31 * k := by
  induction k with
  | zero => simp [cumN]
  | succ k ih => have := dim_bd y ((k : Int) + 1); simp only [cumN]; omega
theorem may_iff {y m d : Int} : mayB y m d = true ↔ 0 ≤ y ∧ y ≤ 9999 ∧ 1 ≤ m ∧ m ≤ 12 ∧ 1 ≤ d ∧ d ≤ dim y m := by unfold mayB; simp
theorem leap_any (y : Int) (w : World) : Calls Tryz.prog 146 #[.int .i64 y] w fun e w' => e = .returned (.bool (leapB y)) ∧ w' = w := by
  by_cases h1 : y < 1
  · go_enter Tryz.func146, Tryz.ntmps146
    go_wp2
    go_ret
    exact ⟨ret_bool (by unfold leapB; simp; omega), rfl⟩
  · by_cases h2 : y > 9999
    · go_enter Tryz.func146, Tryz.ntmps146
      go_wp2
      go_ret
      exact ⟨ret_bool (by unfold leapB; simp; omega), rfl⟩
    · have h0 : 0 ≤ y := by omega
      have e4 : y.tmod 4 = y % 4 := Int.tmod_eq_emod_of_nonneg h0
      have e100 : y.tmod 100 = y % 100 := Int.tmod_eq_emod_of_nonneg h0
      have e400 : y.tmod 400 = y % 400 := Int.tmod_eq_emod_of_nonneg h0
      by_cases c4 : y % 4 = 0
      · by_cases c100 : y % 100 = 0
        · by_cases c400 : y % 400 = 0
          · go_enter Tryz.func146, Tryz.ntmps146
            go_wp2
            go_ret
            exact ⟨ret_bool (by unfold leapB; simp; omega), rfl⟩
          · have d400 : (y % 400 == 0) = false := by simpa using c400
            go_enter Tryz.func146, Tryz.ntmps146
            go_wp2
            go_ret
            exact ⟨ret_bool (by unfold leapB; simp; omega), rfl⟩
        · have d100 : (y % 100 == 0) = false := by simpa using c100
          go_enter Tryz.func146, Tryz.ntmps146
          go_wp2
          go_ret
          exact ⟨ret_bool (by unfold leapB; simp; omega), rfl⟩
      · have d4 : (y % 4 == 0) = false := by simpa using c4
        go_enter Tryz.func146, Tryz.ntmps146
        go_wp2
        go_ret
        exact ⟨ret_bool (by unfold leapB; simp; omega), rfl⟩
theorem length_any (y m : Int) (w : World) : Calls Tryz.prog 140 #[.int .i64 y, .int .i64 m] w fun e w' => e = .returned (.int .i64 (dim y m)) ∧ w' = w := by
  by_cases h2 : m = 2
  · subst h2
    by_cases h0 : y = 0
    · subst h0
      go_enter Tryz.func140, Tryz.ntmps140
      go_wp2_with (first
        | (go_at_call 146; refine (leap_any _ _).mono ?_; rintro _ w2 ⟨rfl, hw⟩; replace hw := hw.symm; subst hw)
        | fail)
      go_ret
      exact ⟨rfl, rfl⟩
    · have d0 : (y == 0) = false := by simpa using h0
      cases hl : leapB y
      all_goals (
        have HL := Lib.hid hl
        clear hl
        go_enter Tryz.func140, Tryz.ntmps140
        go_wp2_with (first
          | (go_at_call 146; refine (leap_any _ _).mono ?_; rintro _ w2 ⟨rfl, hw⟩; replace hw := hw.symm; subst hw; rw [HL.out])
          | fail)
        go_ret
        exact ⟨ret_i64 (by unfold dim; rw [HL.out]; simp [h0]), rfl⟩)
  · have d2 : (m == 2) = false := by simpa using h2
    by_cases h4 : m = 4
    · subst h4
      go_enter Tryz.func140, Tryz.ntmps140
      go_wp2
      go_ret
      exact ⟨ret_i64 (by unfold dim; simp), rfl⟩
    · have d4 : (m == 4) = false := by simpa using h4
      by_cases h6 : m = 6
      · subst h6
        go_enter Tryz.func140, Tryz.ntmps140
        go_wp2
        go_ret
        exact ⟨ret_i64 (by unfold dim; simp), rfl⟩
      · have d6 : (m == 6) = false := by simpa using h6
        by_cases h9 : m = 9
        · subst h9
          go_enter Tryz.func140, Tryz.ntmps140
          go_wp2
          go_ret
          exact ⟨ret_i64 (by unfold dim; simp), rfl⟩
        · have d9 : (m == 9) = false := by simpa using h9
          by_cases h11 : m = 11
          · subst h11
            go_enter Tryz.func140, Tryz.ntmps140
            go_wp2
            go_ret
            exact ⟨ret_i64 (by unfold dim; simp), rfl⟩
          · have d11 : (m == 11) = false := by simpa using h11
            go_enter Tryz.func140, Tryz.ntmps140
            go_wp2
            go_ret
            exact ⟨ret_i64 (by unfold dim; rw [if_neg h2, if_neg (by omega)]), rfl⟩
theorem may_any (y m d : Int) (w : World) : Calls Tryz.prog 129 #[.agg #[.int .i64 y, .int .i64 m, .int .i64 d]] w fun e w' => e = .returned (.bool (mayB y m d)) ∧ Below w.heap.size w w' := by
  by_cases c : 0 ≤ y ∧ y ≤ 9999 ∧ 1 ≤ m ∧ m ≤ 12
  · obtain ⟨c1, c2, c3, c4⟩ := c
    have HM := Lib.hid (⟨c1, c2, c3, c4⟩ : 0 ≤ y ∧ y ≤ 9999 ∧ 1 ≤ m ∧ m ≤ 12)
    have HD := Lib.hid (dim_bd y m)
    by_cases h1 : 1 ≤ d
    · go_enter Tryz.func129, Tryz.ntmps129
      go_wp2
      go_quiet ((go_at_call 140; exact Calls.quiet_of_same (length_any _ _ _)))
      go_wp2
      go_ret
      exact ⟨ret_bool (by have := HM.out; rw [Bool.eq_iff_iff]; simp [mayB, h1, this]), below_drewN ((Below.refl _ _).alloc (Nat.le_refl _) _) _⟩
    · have hd : decide (1 ≤ d) = false := by simpa using h1
      go_enter Tryz.func129, Tryz.ntmps129
      go_wp2
      go_quiet ((go_at_call 140; exact Calls.quiet_of_same (length_any _ _ _)))
      go_wp2
      go_ret
      exact ⟨ret_bool (by unfold mayB; simp; omega), below_drewN ((Below.refl _ _).alloc (Nat.le_refl _) _) _⟩
  · have hf : mayB y m d = false := by unfold mayB; simp; omega
    have HF := Lib.hid hf
    have HC := Lib.hid c
    clear c hf
    rw [HF.out]
    by_cases a1 : y < 0
    · go_enter Tryz.func129, Tryz.ntmps129
      go_wp2
      go_ret
      exact ⟨rfl, (Below.refl _ _).alloc (Nat.le_refl _) _⟩
    · by_cases a2 : y > 9999
      · go_enter Tryz.func129, Tryz.ntmps129
        go_wp2
        go_ret
        exact ⟨rfl, (Below.refl _ _).alloc (Nat.le_refl _) _⟩
      · by_cases a3 : m < 1
        · go_enter Tryz.func129, Tryz.ntmps129
          go_wp2
          go_ret
          exact ⟨rfl, (Below.refl _ _).alloc (Nat.le_refl _) _⟩
        · have a4 : m > 12 := by have := HC.out; omega
          go_enter Tryz.func129, Tryz.ntmps129
          go_wp2
          go_ret
          exact ⟨rfl, (Below.refl _ _).alloc (Nat.le_refl _) _⟩
theorem bcell {W w1 : World} (hb : Below W.heap.size W w1) : (∀ b o, b < W.heap.size → w1.cell? ⟨b, o, none⟩ = W.cell? ⟨b, o, none⟩) ∧ (∀ b o, b < W.heap.size → w1.frozen? ⟨b, o, none⟩ = W.frozen? ⟨b, o, none⟩) :=
  ⟨fun b o h => hb.cell (p := ⟨b, o, none⟩) h, fun b o h => hb.frozen (p := ⟨b, o, none⟩) h⟩
/-- A date in a box of the call's own. -/
theorem Blk3.cells {w w1 : World} {y m d : Int} (h : Blk w1 w.heap.size 85 #[.int .i64 y, .int .i64 m, .int .i64 d]) : w1.cell? ⟨w.heap.size, 0, none⟩ = some (.int .i64 y) ∧ w1.cell? ⟨w.heap.size, 1, none⟩ = some (.int .i64 m) ∧ w1.cell? ⟨w.heap.size, 2, none⟩ = some (.int .i64 d) :=
  ⟨h.cell 0, h.cell 1, h.cell 2⟩
theorem leap_in (y : Int) : (leapB y = true ∧ 1 ≤ y) ∨ leapB y = false := by
  cases h : leapB y
  · exact .inr rfl
  · left; unfold leapB at h; simp at h; exact ⟨rfl, h.1⟩
structure Bx2 (w0 wr : World) (B C : Nat) (y m d ty tm td : Int) : Prop where
  one : Blk wr B 85 #[.int .i64 y, .int .i64 m, .int .i64 d]
  two : Blk wr C 85 #[.int .i64 ty, .int .i64 tm, .int .i64 td]
  bel : Below w0.heap.size w0 wr
theorem Bx2.step {w0 wr w' : World} {B C : Nat} {y m d ty tm td : Int} (h : Bx2 w0 wr B C y m d ty tm td) (hb : Below wr.heap.size wr w') : Bx2 w0 w' B C y m d ty tm td :=
  ⟨h.one.below hb h.one.lt, h.two.below hb h.two.lt, h.bel.trans (hb.mono h.bel.size)⟩
end Go.Proofs.YtlcchkpjcekinaaGreatDoor.Day
/- Lines of a contact: which is ahead. -/
namespace Go.Proofs.YtlcchkpjcekinaaGreatDoor
open Go.RowKit
set_option linter.unusedVariables false
set_option maxRecDepth 20000
abbrev fieldV (k l : Int) (v : ByteArray) : Value := .agg #[.int .i64 k, .int .i64 l, .string v]
def lessF (k l : Int) (v : ByteArray) (k2 l2 : Int) (v2 : ByteArray) : Bool := if k = k2 then (if l = l2 then Op.bytesLess v.toList v2.toList else decide (l < l2)) else decide (k < k2)
theorem two_boxes (w : World) (t : TypeId) (a b : Array Value) : Below w.heap.size w ((w.alloc (.cells a t)).alloc (.cells b t)) := ((Below.refl _ _).alloc (Nat.le_refl _) _).alloc (by simp) _
set_option maxHeartbeats 2000000 in
theorem less_any (k l : Int) (v : ByteArray) (k2 l2 : Int) (v2 : ByteArray) (w : World) : Calls Tryz.prog 76 #[fieldV k l v, fieldV k2 l2 v2] w fun e w' => e = .returned (.bool (lessF k l v k2 l2 v2)) ∧ Below w.heap.size w w' := by
  obtain ⟨r, hr⟩ : ∃ r, lessF k l v k2 l2 v2 = r := ⟨_, rfl⟩
  rw [hr]
  have HR := Lib.hid (show r = if k = k2 then (if l = l2 then Op.bytesLess v.toList v2.toList else decide (l < l2)) else decide (k < k2) by rw [← hr]; rfl)
  clear hr
  by_cases h : k = k2
  · have d : (k != k2) = false := by simpa using h
    by_cases g : l = l2
    · have d2 : (l != l2) = false := by simpa using g
      have H0 := Lib.hid (show r = Op.bytesLess v.toList v2.toList by rw [HR.out, if_pos h, if_pos g])
      go_enter Tryz.func76, Tryz.ntmps76
      go_wp2
      go_ret
      exact ⟨by rw [H0.out]; rfl, two_boxes _ _ _ _⟩
    · have d2 : (l != l2) = true := by simpa using g
      have H0 := Lib.hid (show r = decide (l < l2) by rw [HR.out, if_pos h, if_neg g])
      go_enter Tryz.func76, Tryz.ntmps76
      go_wp2
      go_ret
      exact ⟨by rw [H0.out]; rfl, two_boxes _ _ _ _⟩
  · have d : (k != k2) = true := by simpa using h
    have H0 := Lib.hid (show r = decide (k < k2) by rw [HR.out, if_neg h])
    go_enter Tryz.func76, Tryz.ntmps76
    go_wp2
    go_ret
    exact ⟨by rw [H0.out]; rfl, two_boxes _ _ _ _⟩
end Go.Proofs.YtlcchkpjcekinaaGreatDoor
namespace Go.Proofs.YtlcchkpjcekinaaGreatDoor
open Go.RowKit
open Go.Lib
set_option linter.unusedVariables false
set_option linter.unusedSimpArgs false
set_option maxRecDepth 100000
def ordF (k l : Int) (v : ByteArray) (k2 l2 : Int) (v2 : ByteArray) : Int := if lessF k l v k2 l2 v2 = true then -1 else if lessF k2 l2 v2 k l v = true then 1 else 0
set_option maxHeartbeats 2000000 in
theorem order_any (k l : Int) (v : ByteArray) (k2 l2 : Int) (v2 : ByteArray) (w : World) : Calls Tryz.prog 55 #[fieldV k l v, fieldV k2 l2 v2] w fun e w' => e = .returned (.int .i64 (ordF k l v k2 l2 v2)) ∧ Below w.heap.size w w' := by
  obtain ⟨wA, hwA⟩ : ∃ wA, (w.alloc (.cells #[.int .i64 k, .int .i64 l, .string v] 37)).alloc (.cells #[.int .i64 k2, .int .i64 l2, .string v2] 37) = wA := ⟨_, rfl⟩
  obtain ⟨n, hn⟩ : ∃ n, w.heap.size = n := ⟨_, rfl⟩
  have HB1 := Lib.hid (show Blk wA n 37 #[.int .i64 k, .int .i64 l, .string v] from hwA ▸ hn ▸ (Blk.new w _ _).alloc _)
  have HB2 := Lib.hid (show Blk wA (n + 1) 37 #[.int .i64 k2, .int .i64 l2, .string v2] from by
    have := Blk.new (w.alloc (.cells #[.int .i64 k, .int .i64 l, .string v] 37)) 37 #[.int .i64 k2, .int .i64 l2, .string v2]
    rw [World.size_alloc, hwA, hn] at this
    exact this)
  have HW := Lib.hid (show Below n w wA from hwA ▸ hn ▸ two_boxes w 37 _ _)
  have HN := Lib.hid hn
  have a0 : wA.cell? ⟨n, 0, none⟩ = some (.int .i64 k) := HB1.out.cell 0
  have a1 : wA.cell? ⟨n, 1, none⟩ = some (.int .i64 l) := HB1.out.cell 1
  have a2 : wA.cell? ⟨n, 2, none⟩ = some (.string v) := HB1.out.cell 2
  have b0 : wA.cell? ⟨n + 1, 0, none⟩ = some (.int .i64 k2) := HB2.out.cell 0
  have b1 : wA.cell? ⟨n + 1, 1, none⟩ = some (.int .i64 l2) := HB2.out.cell 1
  have b2 : wA.cell? ⟨n + 1, 2, none⟩ = some (.string v2) := HB2.out.cell 2
  obtain ⟨r1, hr1⟩ : ∃ r, lessF k l v k2 l2 v2 = r := ⟨_, rfl⟩
  obtain ⟨r2, hr2⟩ : ∃ r, lessF k2 l2 v2 k l v = r := ⟨_, rfl⟩
  have HO := Lib.hid (show ordF k l v k2 l2 v2 = if r1 = true then -1 else if r2 = true then 1 else 0 from by unfold ordF; rw [hr1, hr2])
  have HL1 := Lib.hid (less_any k l v k2 l2 v2 wA)
  have HL2 := Lib.hid (fun W => less_any k2 l2 v2 k l v W)
  rw [hr1] at HL1
  rw [hr2] at HL2
  rw [HO.out]
  clear hr1 hr2
  go_enter Tryz.func55, Tryz.ntmps55
  go_wp2_with fail
  refine HL1.out.mono ?_
  rintro _ w1 ⟨rfl, hb⟩
  have HX1 := Lib.hid (HB1.out.below hb HB1.out.lt)
  have HX2 := Lib.hid (HB2.out.below hb HB2.out.lt)
  have HW1 := Lib.hid (HW.out.trans (hb.mono (show n ≤ wA.heap.size from by have := HW.out.size; have := HN.out; omega)))
  clear hb a0 a1 a2 b0 b1 b2 hwA
  cases r1 with
  | true =>
    go_wp2
    go_ret
    exact ⟨rfl, HN.out ▸ HW1.out⟩
  | false =>
    have a0 : w1.cell? ⟨n, 0, none⟩ = some (.int .i64 k) := HX1.out.cell 0
    have a1 : w1.cell? ⟨n, 1, none⟩ = some (.int .i64 l) := HX1.out.cell 1
    have a2 : w1.cell? ⟨n, 2, none⟩ = some (.string v) := HX1.out.cell 2
    have b0 : w1.cell? ⟨n + 1, 0, none⟩ = some (.int .i64 k2) := HX2.out.cell 0
    have b1 : w1.cell? ⟨n + 1, 1, none⟩ = some (.int .i64 l2) := HX2.out.cell 1
    have b2 : w1.cell? ⟨n + 1, 2, none⟩ = some (.string v2) := HX2.out.cell 2
    go_wp2_with fail
    refine (HL2.out w1).mono ?_
    rintro _ w2 ⟨rfl, hb⟩
    have HW2 := Lib.hid (HW1.out.trans (hb.mono (show n ≤ w1.heap.size from by have := HW1.out.size; have := HN.out; omega)))
    clear hb
    cases r2 <;> (
      go_wp2
      go_ret
      exact ⟨by first | rfl | simp, HN.out ▸ HW2.out⟩)
end Go.Proofs.YtlcchkpjcekinaaGreatDoor
