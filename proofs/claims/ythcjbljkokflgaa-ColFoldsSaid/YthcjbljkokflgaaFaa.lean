/- Bytes, one behind the other: their order. -/
import Derived.Below
import Derived.ChangeSame
import Derived.WalkKit
import Derived.ProofKit
import Derived.Carry
import Derived.OpenShut
import Derived.Laws.OwnMore
import Derived.Deep.Draws
import Derived.Laws.Rows
import Derived.OwnWalk
import Derived.Laws.AppendOwn
import Derived.BigQuiet
import Derived.RegionTactic
import Derived.Deep.QuietTactic
import Derived.Test.YthcjbljkokflgaaProg
import Derived.Deep.Upon
import Derived.Lib.Hide
import Derived.KernelRfl
import Derived.Sort.Grow
set_option linter.unnecessarySimpa false
/- The last step of a law's row, whatever its arguments' types: where the call leaves all that there was as it was ('Below'), each argument reads as it read before. No conditions. -/
namespace Go.Proofs.Ythcjbljkokflgaa
open Go.RowKit Go.WideShapes Go.ChangeShapes
section
variable {H : Type} {enc : TypeId × Value → H} {P : Program}

theorem trodAll_stays (hl : laidOutB P = true) {W W' : World} {sp : Nat → Bool} : ∀ {ts : List TypeId} {vs : List Value} {ds : List (DataW H)} {ps : List MemPlace},
    (∀ t ∈ ts, P.readableRec t = true ∧ t < P.types.size) → DataW.TrodAll enc P W 0 (fun _ => true) true ts vs ds ps → (∀ x ∈ ps, W.sameAt W' x) → (∀ x ∈ ps, sp x.block = true) → DataW.TrodAll enc P W' 0 sp true ts vs ds ps
  | [], [], [], _, _, h, _, _ => h
  | _ :: _, _ :: _, _ :: _, _, hT, ⟨p, q, h1, h2, e⟩, hsame, hs =>
    ⟨p, q, WideElems.Trod_stays hl (hT _ (List.mem_cons.2 (.inl rfl))).1 (hT _ (List.mem_cons.2 (.inl rfl))).2 h1 (fun x hx => hsame x (by rw [e]; exact List.mem_append_left _ hx)) (fun x hx => hs x (by rw [e]; exact List.mem_append_left _ hx)),
      trodAll_stays hl (fun t ht => hT t (List.mem_cons.2 (.inr ht))) h2 (fun x hx => hsame x (by rw [e]; exact List.mem_append_right _ hx)) (fun x hx => hs x (by rw [e]; exact List.mem_append_right _ hx)), e⟩

theorem post_of_below {f : Func} {s : ChangeSpec} {apart fresh handsOn again : Bool} {W W' : World} {args : Array Value} {v : Value} {ds gs : List (DataW H)} {before pa pv : List MemPlace}
    (hW : DataW.Whole enc P f.params.toList s.vars apart W args.toList ds gs before)
    (hres : ∀ (b : Nat) (sp : Nat → Bool) (hd : Bool), DataW.TrodAll enc P W' b sp hd f.resultTypes.toList (v.resultList f.resultTypes.size) (s.fn H (ds ++ gs)).results [])
    (hargs : ∀ sp : Nat → Bool, (∀ p ∈ before, sp p.block = true) → DataW.TrodAll enc P W' 0 sp true f.params.toList args.toList (s.fn H (ds ++ gs)).args pa)
    (hvars : ∀ sp : Nat → Bool, (∀ p ∈ before, sp p.block = true) → DataW.TrodVars enc P W' sp s.vars (s.fn H (ds ++ gs)).vars pv)
    (hps : before = pa ++ pv) (hb : Below W.heap.size W W')
    (hok : ∀ (j : Nat) (t : TypeId) (r : Value), f.resultTypes[j]? = some t → (v.resultList f.resultTypes.size)[j]? = some r → Value.okWide P W' .any 0 t r) :
    s.post enc P f apart fresh handsOn again W args v W' := by
  have hlt : ∀ p ∈ before, p.block < W.heap.size := fun p hp => hW.lt p hp
  have hold : ∀ p ∈ before, (fun b => decide (b < W.heap.size)) p.block = true := fun p hp => by simpa using hlt p hp
  refine ⟨ds, gs, before, [], pa, pv, hW, hres _ _ _, hargs _ hold, hvars _ hold, World.keptBut_mono (fun p hp => ⟨hp, ?_⟩) (hb.frame (· ∈ before)), fun _ => ?_⟩
  · rw [hps, List.mem_append] at hp
    exact Or.inr hp
  · obtain ⟨_, _, _, _, _, hz, hn⟩ := hW
    refine ⟨hok, _, _, ([] ++ pa) ++ pv, ⟨[] ++ pa, pv, trodAll_append (hargs _ (fun _ _ => rfl)) (hres _ _ _), hvars _ (fun _ _ => rfl), rfl, ?_, ?_⟩, ?_⟩
    · intro b off hp
      have hin : MemPlace.cell b off ∈ before := by rw [hps]; simpa using hp
      rw [hb.frozen (hlt _ hin)]
      exact hz b off hin
    · intro ha
      have := hn ha
      rw [hps] at this
      simpa using this
    · intro p hp _
      rw [hps]
      simpa using hp

/-- A law: true, and the arguments as they were. 'hA': the arguments' reading before the call. -/
theorem law_post {f : Func} {s : ChangeSpec} {handsOn again : Bool} {W W' : World} {args : Array Value} {ds : List (DataW H)} {before : List MemPlace} {tb : TypeId}
    (hl : laidOutB P = true) (hp : (f.params.toList.all fun t => P.readableRec t && decide (t < P.types.size)) = true)
    (hr : f.resultTypes = #[tb]) (hb4 : P.underlying tb = some .bool) (hs : s.vars = [])
    (hW : DataW.Whole enc P f.params.toList s.vars false W args.toList ds [] before)
    (hfn : s.fn H ds = { results := [.lit (.bool true)], args := ds }) (hb : Below W.heap.size W W') :
    s.post enc P f false true handsOn again W args (.bool true) W' := by
  have hlt : ∀ p ∈ before, p.block < W.heap.size := fun p hp => hW.lt p hp
  have hW' := hW
  obtain ⟨p, q, hA, hV, hpq, _, _⟩ := hW
  rw [hs] at hV
  obtain ⟨_, hq⟩ := trodVars_none hV
  subst hq
  rw [List.append_nil] at hpq
  subst hpq
  refine post_of_below (pa := before) (pv := []) hW' (fun _ _ _ => ?_) (fun sp hsp => ?_) (fun _ _ => ?_) (by simp) hb ?_
  · rw [List.append_nil, hfn, hr]
    exact trodAll_cons_mk (shut_bool hb4 _) trodAll_mk0
  · rw [List.append_nil, hfn]
    exact trodAll_stays hl (fun t ht => by have := List.all_eq_true.1 hp t ht; simpa using this) hA (fun x hx => hb.same (hlt x hx)) hsp
  · rw [List.append_nil, hfn, hs]
    exact rfl
  · exact ok_one hr rfl (okWide_bool_mk hb4 _)
end
end Go.Proofs.Ythcjbljkokflgaa
/- What an argument that can be read as data is: integers in their range, bools, strings, structs of these, slices of these, cell by cell. -/
namespace Go.Proofs.Ythcjbljkokflgaa
open Go.RowKit Go.WideShapes Go.ChangeShapes

inductive Sh where
  | int (k : IntKind)
  | bool
  | str
  | agg (n : Nat) (l : List (Nat × Nat × Sh))
  | slice (n : Nat) (e : Sh)

mutual
def Sh.ok (w : World) : Sh → List Value → Prop
  | .int k, cs => ∃ a, cs = [.int k a] ∧ (Lit.int k a).wf = true
  | .bool, cs => ∃ b, cs = [.bool b]
  | .str, cs => ∃ s : ByteArray, cs = [.string s] ∧ s.size ≤ maxLen
  | .agg n l, cs => cs.length = n ∧ Sh.okAll w l cs
  | .slice n e, cs => cs = [.slice none 0 0] ∨ ∃ (a : Addr) (len cap : Nat), cs = [.slice (some a) len cap] ∧ len ≤ cap ∧ cap ≤ maxLen ∧
      ∀ i, i < len → ∃ cs', w.cells? 0 (a.add (i * n)) n = some cs' ∧ Sh.ok w e cs'
def Sh.okAll (w : World) : List (Nat × Nat × Sh) → List Value → Prop
  | [], _ => True
  | (o, n, s) :: r, cs => Sh.ok w s ((cs.drop o).take n) ∧ Sh.okAll w r cs
end

def shAll (P : Program) (sh : TypeId → Option Sh) : List Field → Option (List (Nat × Nat × Sh))
  | [] => some []
  | f :: r => match sh f.type, shAll P sh r with
    | some s, some l => some ((f.offset, P.cellsOf f.type, s) :: l)
    | _, _ => none
def sh (P : Program) : Nat → TypeId → Option Sh
  | 0, _ => none
  | n + 1, t => match P.underlying t with
    | some (.int k) => some (.int k)
    | some .bool => some .bool
    | some .string => some .str
    | some (.struct fs) => match shAll P (sh P n) fs.toList with
      | some l => some (.agg (P.cellsOf t) l)
      | none => none
    | some (.slice e) => match sh P n e with
      | some s => some (.slice (P.cellsOf e) s)
      | none => none
    | _ => none

section
variable {H : Type} {enc : TypeId × Value → H} {P : Program} {w : World} {spare : Nat → Bool} {held : Bool}
theorem shAll_ok {F : TypeId → Option Sh} {n : Nat} {cs : List Value} (hF : ∀ t s cs x, F t = some s → DataW.trod enc P w 0 spare held n t cs = some x → Sh.ok w s cs) :
    ∀ (fs : List Field) (l : List (Nat × Nat × Sh)), shAll P F fs = some l → (∀ f ∈ fs, ∃ x, DataW.trod enc P w 0 spare held n f.type ((cs.drop f.offset).take (P.cellsOf f.type)) = some x) → Sh.okAll w l cs
  | [], l, h, _ => by
    simp only [shAll, Option.some.injEq] at h
    subst h
    simp [Sh.okAll]
  | f :: r, l, h, hx => by
    simp only [shAll] at h
    split at h
    next s l' h1 h2 =>
      simp only [Option.some.injEq] at h
      subst h
      obtain ⟨x, hx0⟩ := hx f (List.mem_cons.2 (.inl rfl))
      simp only [Sh.okAll]
      exact ⟨hF _ _ _ _ h1 hx0, shAll_ok hF r l' h2 (fun g hg => hx g (List.mem_cons.2 (.inr hg)))⟩
    next => cases h

theorem sh_ok : ∀ (m : Nat) (t : TypeId) (s : Sh) (n : Nat) (cs : List Value) (x : DataW H × List MemPlace), sh P m t = some s → DataW.trod enc P w 0 spare held n t cs = some x → Sh.ok w s cs := by
  intro m
  induction m with
  | zero => intro t s n cs x h; simp [sh] at h
  | succ m ih =>
    intro t s n cs x h hx
    simp only [sh] at h
    split at h
    next k hk =>
      simp only [Option.some.injEq] at h
      subst h
      obtain ⟨a, h1, _, h3⟩ := DataW.trod_int hk hx
      simp only [Sh.ok]
      exact ⟨a, h1, h3⟩
    next hk =>
      simp only [Option.some.injEq] at h
      subst h
      obtain ⟨a, h1, _⟩ := DataW.trod_bool hk hx
      simp only [Sh.ok]
      exact ⟨a, h1⟩
    next hk =>
      simp only [Option.some.injEq] at h
      subst h
      obtain ⟨a, h1, _, h3⟩ := DataW.trod_string hk hx
      simp only [Sh.ok]
      exact ⟨a, h1, h3⟩
    next fs hk =>
      split at h
      next l hl =>
        simp only [Option.some.injEq] at h
        subst h
        obtain ⟨xs, n', _, _, hlen, hxl, hat⟩ := DataW.trod_struct hk hx
        simp only [Sh.ok]
        refine ⟨hlen, shAll_ok (n := n') (fun t s cs x h1 h2 => ih t s n' cs x h1 h2) fs.toList l hl (fun f hf => ?_)⟩
        obtain ⟨i, hi, e⟩ := List.mem_iff_getElem.1 hf
        have hi' : i < fs.size := by simpa using hi
        have h1 : fs[i]? = some f := by rw [Array.getElem?_eq_getElem hi']; simp at e; rw [e]
        have h2 := hat i f h1
        rw [h2]
        exact ⟨_, List.getElem?_eq_getElem (by omega)⟩
      next => cases h
    next e hk =>
      split at h
      next s' hs' =>
        simp only [Option.some.injEq] at h
        subst h
        simp only [Sh.ok]
        rcases DataW.trod_slice hk hx with ⟨h1, _⟩ | ⟨a, len, cap, elems, rest, n', _, h1, _, _, hl, hm, hel, hc, _⟩
        · exact .inl h1
        · refine .inr ⟨a, len, cap, h1, hl, hm, fun i hi => ?_⟩
          have h2 := hc i hi
          rw [List.getElem?_eq_getElem (by omega)] at h2
          obtain ⟨cs', h3, h4⟩ := Option.bind_eq_some_iff.1 h2
          exact ⟨cs', h3, ih e s' n' cs' _ hs' h4⟩
      next => cases h
    next => cases h

/-- An argument: its cells are of its type's shape. -/
theorem arg_ok {t : TypeId} {s : Sh} {v : Value} {d : DataW H} {p : List MemPlace} (m : Nat) (hs : sh P m t = some s) (h : DataW.Trod enc P w 0 spare held t v d p) : Sh.ok w s v.cells.toList := by
  obtain ⟨n, hn⟩ := h
  exact sh_ok m t s n _ _ hs hn
end
end Go.Proofs.Ythcjbljkokflgaa
/- A slice that came in, element by element, cell by cell: at plain addresses of a block that was there. -/
namespace Go.Proofs.Ythcjbljkokflgaa
open Go.RowKit
theorem cell_lt {w : World} {p : Addr} {v : Value} (h : w.cell? p = some v) : p.block < w.heap.size := by
  rcases Nat.lt_or_ge p.block w.heap.size with hlt | hge
  · exact hlt
  · unfold World.cell? at h
    rw [Array.getElem?_eq_none hge] at h
    cases h
theorem add_plain (b off n : Nat) : (⟨b, off, none⟩ : Addr).add n = ⟨b, off + n, none⟩ := by
  unfold Addr.add
  split
  · next h => subst h; rfl
  · rfl
theorem slice_at {w : World} {A : Option Addr} {len cap n : Nat} {e : Sh} (S : Sh.ok w (.slice n e) [.slice A len cap]) (hn : 0 < n) :
    ∃ b off, len ≤ cap ∧ cap ≤ maxLen ∧ (0 < len → A = some ⟨b, off, none⟩ ∧ b < w.heap.size) ∧
      ∀ i, i < len → ∃ cs, cs.length = n ∧ Sh.ok w e cs ∧ ∀ j, j < n → w.cell? ⟨b, off + i * n + j, none⟩ = cs[j]? := by
  simp only [Sh.ok] at S
  rcases S with S | ⟨a, l, c, e1, hl, hm, hc⟩
  · simp at S
    obtain ⟨rfl, rfl, rfl⟩ := S
    exact ⟨0, 0, Nat.le_refl _, by unfold maxLen; omega, fun h => absurd h (by omega), fun i h => absurd h (by omega)⟩
  · simp at e1
    obtain ⟨rfl, rfl, rfl⟩ := e1
    rcases Nat.eq_zero_or_pos len with h0 | h0
    · exact ⟨0, 0, hl, hm, fun h => absurd h (by omega), fun i h => absurd h (by omega)⟩
    · obtain ⟨cs, hcs, _⟩ := hc 0 h0
      obtain ⟨_, hlen, hat⟩ := World.cells?_some hcs
      have h00 := hat 0 hn
      rw [List.getElem?_eq_getElem (by omega)] at h00
      have hsp : a.spot = none := by simpa [Addr.add] using World.cell?_spot h00
      have hlt := cell_lt h00
      obtain ⟨b, off, sp⟩ := a
      simp at hsp
      subst hsp
      refine ⟨b, off, hl, hm, fun _ => ⟨rfl, by simpa [Addr.add] using hlt⟩, fun i hi => ?_⟩
      obtain ⟨cs', hcs', hok⟩ := hc i hi
      obtain ⟨_, hlen', hat'⟩ := World.cells?_some hcs'
      refine ⟨cs', hlen', hok, fun j hj => ?_⟩
      have := hat' j hj
      rwa [add_plain, add_plain] at this
end Go.Proofs.Ythcjbljkokflgaa
namespace Go.Proofs.Ythcjbljkokflgaa
open Go.RowKit

def Blk (w : World) (g : Nat) (t : TypeId) (cs : Array Value) : Prop := w.heap[g]? = some (.cells cs t (0, 0))
section
variable {w w' : World} {g : Nat} {t : TypeId} {cs : Array Value}
theorem Blk.lt (h : Blk w g t cs) : g < w.heap.size := by
  rcases Nat.lt_or_ge g w.heap.size with hlt | hge
  · exact hlt
  · unfold Blk at h; rw [Array.getElem?_eq_none hge] at h; cases h
theorem Blk.cell (h : Blk w g t cs) (i : Nat) : w.cell? ⟨g, i, none⟩ = cs[i]? := cell_of_row w g i cs t (0, 0) h
theorem Blk.frozen (h : Blk w g t cs) (i : Nat) : w.frozen? ⟨g, i, none⟩ = false := by
  unfold Blk at h
  simp [World.frozen?, h]
theorem Blk.new (w : World) (t : TypeId) (cs : Array Value) : Blk (w.alloc (.cells cs t)) w.heap.size t cs := heap_alloc_new w _
theorem Blk.drew (h : Blk w g t cs) : Blk w.drew g t cs := h
theorem Blk.drewN (h : Blk w g t cs) (n : Nat) : Blk (w.drewN n) g t cs := h
theorem Blk.alloc (h : Blk w g t cs) (o : Obj) : Blk (w.alloc o) g t cs := (Below.heap_alloc w o g h.lt).trans h
theorem Blk.set_ (h : Blk w g t cs) (i : Nat) (u : Value) : Blk (w.setCell ⟨g, i, none⟩ u) g t (cs.setIfInBounds i u) := by
  unfold Blk at h ⊢
  simp [World.setCell, Array.getElem?_modify, h]
theorem Blk.far (h : Blk w g t cs) {p : Addr} (hp : g ≠ p.block) (u : Value) : Blk (w.setCell p u) g t cs := (Below.heap_setCell w p u g hp).trans h
theorem Blk.below {B : Nat} (h : Blk w g t cs) (hb : Below B w w') (hg : g < B) : Blk w' g t cs := (hb.block g hg).trans h
theorem Blk.grown {row : Option Nat} (h : Blk w g t cs) (hb : w.grownBy w' row) (hg : some g ≠ row) : Blk w' g t cs := (hb.block g h.lt hg).trans h
end
theorem below_drewN {B : Nat} {a w : World} (h : Below B a w) (n : Nat) : Below B a (w.drewN n) := ⟨h.os, h.tape, h.output, h.size, h.block⟩
theorem ret_i64 {a b : Int} (h : a = b) : Ending.returned (Value.int .i64 a) = .returned (.int .i64 b) := by rw [h]
end Go.Proofs.Ythcjbljkokflgaa
/- Boxes that a call holds: what stands in them while other calls come and go. -/
namespace Go.Proofs.Ythcjbljkokflgaa
open Go.RowKit
section
variable {w0 wr w' : World} {l : List (Nat × TypeId × Array Value)}
end
end Go.Proofs.Ythcjbljkokflgaa
/- Boxes that a call holds: the parameters' ones. -/
namespace Go.Proofs.Ythcjbljkokflgaa
open Go.RowKit
variable {w0 wr w' : World} {l : List (Nat × TypeId × Array Value)}
end Go.Proofs.Ythcjbljkokflgaa
/- Items: where they lie, are they alike (for a seat without LightResp). -/
namespace Go.Proofs.Ythcjbljkokflgaa
open Go.RowKit
open Go.Lib
set_option linter.unusedVariables false
set_option linter.unusedSimpArgs false
set_option maxRecDepth 20000
structure It where
  u : ByteArray
  v : Int
  x : Bool
  c : ByteArray
/-- Items that lie in memory, four cells each. -/
structure Its (w : World) (A : Option Addr) (len cap b off : Nat) (xs : List It) : Prop where
  hlen : xs.length = len
  le : len ≤ cap
  addr : 0 < len → A = some ⟨b, off, none⟩ ∧ b < w.heap.size
  cell : ∀ (j : Nat) (t : It), xs[j]? = some t → w.cell? ⟨b, off + j * 4, none⟩ = some (.string t.u) ∧ w.cell? ⟨b, off + j * 4 + 1, none⟩ = some (.int .i64 t.v) ∧ w.cell? ⟨b, off + j * 4 + 2, none⟩ = some (.bool t.x) ∧ w.cell? ⟨b, off + j * 4 + 3, none⟩ = some (.string t.c)
theorem Its.below {w w' : World} {A : Option Addr} {len cap b off B : Nat} {xs : List It} (h : Its w A len cap b off xs) (hb : Below B w w') (hB : 0 < len → b < B) : Its w' A len cap b off xs :=
  ⟨h.hlen, h.le, fun hl => ⟨(h.addr hl).1, Nat.lt_of_lt_of_le (h.addr hl).2 hb.size⟩, fun j t hj => by
    have hlt : j < xs.length := (List.getElem?_eq_some_iff.1 hj).1
    have hbb := hB (by have := h.hlen; omega)
    obtain ⟨h1, h2, h3, h4⟩ := h.cell j t hj
    exact ⟨by rw [hb.cell (p := ⟨b, _, none⟩) hbb]; exact h1, by rw [hb.cell (p := ⟨b, _, none⟩) hbb]; exact h2, by rw [hb.cell (p := ⟨b, _, none⟩) hbb]; exact h3, by rw [hb.cell (p := ⟨b, _, none⟩) hbb]; exact h4⟩⟩
def itC (t : It) : List Value := [.string t.u, .int .i64 t.v, .bool t.x, .string t.c]
def itsC (xs : List It) : List Value := (xs.map itC).flatten
theorem itsC_len (xs : List It) : (itsC xs).length = xs.length * 4 := by
  induction xs with
  | nil => rfl
  | cons t xs ih => unfold itsC at *; simp only [List.map_cons, List.flatten_cons, List.length_append, List.length_cons, ih]; simp [itC]; omega
theorem itsC_snoc (xs : List It) (t : It) : itsC (xs ++ [t]) = itsC xs ++ itC t := by unfold itsC; simp
theorem itsC_get : ∀ (xs : List It) (j : Nat) (t : It), xs[j]? = some t → ∀ i, i < 4 → (itsC xs)[j * 4 + i]? = (itC t)[i]?
  | [], j, t, h => by simp at h
  | y :: xs, 0, t, h => fun i hi => by
    simp at h; subst h
    have hl : (itC y).length = 4 := rfl
    show ((itC y) ++ itsC xs)[0 * 4 + i]? = _
    rw [Nat.zero_mul, Nat.zero_add, List.getElem?_append_left (by omega)]
  | y :: xs, j + 1, t, h => fun i hi => by
    have hl : (itC y).length = 4 := rfl
    show ((itC y) ++ itsC xs)[(j + 1) * 4 + i]? = _
    rw [List.getElem?_append_right (by omega), hl, show (j + 1) * 4 + i - 4 = j * 4 + i by omega]
    exact itsC_get xs j t (by simpa using h) i hi
theorem own_its {w : World} {base : Nat} {v : Value} {xs : List It} (h : w.ownsRow base 62 4 v xs.length (itsC xs)) : ∃ A cap b, v = .slice A xs.length cap ∧ Its w A xs.length cap b 0 xs := by
  obtain ⟨h1, ⟨rfl, h2⟩ | ⟨g, cap, cur, rfl, hg, hh, hc, hm, hcs, ht⟩⟩ := h
  · have : xs = [] := List.length_eq_zero_iff.1 h2
    subst this
    exact ⟨none, 0, 0, rfl, ⟨rfl, Nat.le_refl _, fun h => absurd h (by simp), fun j t hj => by simp at hj⟩⟩
  · refine ⟨some ⟨g, 0, none⟩, cap, g, rfl, ⟨rfl, hc, fun _ => ⟨rfl, Blk.lt hh⟩, fun j t hj => ?_⟩⟩
    have hjl : j < xs.length := (List.getElem?_eq_some_iff.1 hj).1
    have key : ∀ i, i < 4 → w.cell? ⟨g, 0 + j * 4 + i, none⟩ = (itC t)[i]? := fun i hi => by
      rw [Nat.zero_add, cell_of_row w g _ cur _ (0, 0) hh, ← itsC_get xs j t hj i hi, ← ht, List.getElem?_take, if_pos (by omega), Array.getElem?_toList]
    exact ⟨key 0 (by omega), key 1 (by omega), key 2 (by omega), key 3 (by omega)⟩
theorem own_its2 {w : World} {base : Nat} {v : Value} {xs : List It} (h : w.ownsRow base 62 4 v xs.length (itsC xs)) : ∃ A cap b, v = .slice A xs.length cap ∧ Its w A xs.length cap b 0 xs ∧ (0 < xs.length → base ≤ b) := by
  obtain ⟨A, cap, b, rfl, hI⟩ := own_its h
  refine ⟨A, cap, b, rfl, hI, fun hl => ?_⟩
  have e := (hI.addr hl).1
  subst e
  exact (h.lt b rfl).1
set_option maxHeartbeats 4000000 in
theorem alike_any {w : World} {A B : Option Addr} {len capA capB ba bb oa ob : Nat} {xs : List It} (h : Its w A len capA ba oa xs) (k : Its w B len capB bb ob xs) (hn : len ≤ 100000) : Calls Try.prog 21 #[.slice A len capA, .slice B len capB] w fun r w' => r = .returned (.bool true) ∧ Below w.heap.size w w' := by
  have HA := Lib.hid h
  have HB := Lib.hid k
  have hlen := h.hlen
  have hla := h.le
  have hlb := k.le
  have hnI : (len : Int) ≤ 100000 := by omega
  have H0 := Lib.hid (Below.refl w.heap.size w)
  clear h k
  go_enter Try.func21, Try.ntmps21
  go_wp2
  go_loopw [5] (fun i wr => ∃ q : Nat, q ≤ len ∧ i = .int .i64 (q : Int) ∧ Below w.heap.size w wr) (fun i _ => len - (intOf i).toNat)
  case atStart => exact ⟨0, Nat.zero_le _, rfl, H0.out⟩
  case round =>
    obtain ⟨q, hq, rfl, hB⟩ := hrel
    have HR := Lib.hid hB
    clear hB
    by_cases hql : q < len
    · obtain ⟨t, ht⟩ : ∃ t, xs[q]? = some t := ⟨xs[q]'(by rw [HA.out.hlen]; exact hql), List.getElem?_eq_getElem _⟩
      obtain ⟨rfl, hbl⟩ := HA.out.addr (by omega)
      obtain ⟨rfl, hbk⟩ := HB.out.addr (by omega)
      obtain ⟨c0, c1, c2, c3⟩ := (HA.out.below HR.out (fun _ => hbl)).cell q t ht
      obtain ⟨d0, d1, d2, d3⟩ := (HB.out.below HR.out (fun _ => hbk)).cell q t ht
      have hqI : (q : Int) < (len : Int) := by omega
      obtain ⟨tu, tv, tx, tc⟩ := t
      simp only at c0 c1 c2 c3 d0 d1 d2 d3
      clear ht
      go_wp2_with fail
      go_quiet (fail)
      have HQ := Lib.hid (below_drewN HR.out nq)
      go_wp2
      go_roundw
      case rel => exact ⟨q + 1, by omega, by go_num, HQ.out⟩
      case measure => simp [intOf]; omega
    · obtain rfl : q = len := by omega
      go_wp2
      go_ret
      exact ⟨rfl, HR.out⟩
end Go.Proofs.Ythcjbljkokflgaa
/- Draws and blocks of its own, nothing else. -/
namespace Go.Proofs.Ythcjbljkokflgaa
open Go.RowKit
open Go.Lib
open Go.Proofs
set_option linter.unusedVariables false
set_option linter.unusedSimpArgs false
set_option maxRecDepth 1000000
instance : Inhabited It := ⟨⟨ByteArray.empty, 0, false, ByteArray.empty⟩⟩
/-- Draws and blocks of its own, nothing else. -/
def GrI (w w' : World) : Prop := ∃ q os, w' = Sort.grow (w.drewN q) os
theorem GrI.refl (w : World) : GrI w w := ⟨0, #[], by simp [Sort.grow, World.drewN]⟩
theorem GrI.trans {a b c : World} (h : GrI a b) (k : GrI b c) : GrI a c := by
  obtain ⟨q, os, rfl⟩ := h
  obtain ⟨q2, os2, rfl⟩ := k
  exact ⟨q + q2, os ++ os2, by simp [Sort.grow, World.drewN, Array.append_assoc, Nat.add_assoc]⟩
theorem GrI.alloc {a b : World} (h : GrI a b) (o : Obj) : GrI a (b.alloc o) := h.trans ⟨0, #[o], by rw [Sort.alloc_eq_grow]; simp [Sort.grow, World.drewN]⟩
theorem GrI.below {a b : World} (h : GrI a b) : Below a.heap.size a b := by
  obtain ⟨q, os, rfl⟩ := h
  refine ⟨rfl, rfl, rfl, ?_, fun k hk => ?_⟩
  · simp [Sort.grow, World.drewN]
  · simp only [Sort.grow, World.drewN]
    rw [Array.getElem?_append_left hk]
theorem itsC_at (L : List It) (t : Nat) : (itsC L)[t]? = match L[t / 4]? with | some f => (itC f)[t % 4]? | none => none := by
  cases h : L[t / 4]? with
  | some f =>
    have := itsC_get L (t / 4) f h (t % 4) (Nat.mod_lt _ (by decide))
    show (itsC L)[t]? = (itC f)[t % 4]?
    rw [← this]
    congr 1
    omega
  | none =>
    have := List.getElem?_eq_none_iff.1 h
    exact List.getElem?_eq_none_iff.2 (by rw [itsC_len]; omega)
end Go.Proofs.Ythcjbljkokflgaa
namespace Go.Proofs.Ythcjbljkokflgaa
open Go.RowKit
set_option linter.unusedVariables false
theorem bl_irr : ∀ l : List UInt8, Op.bytesLess l l = false
  | [] => rfl
  | a :: x => by simp [Op.bytesLess, bl_irr x]
theorem bl_asym : ∀ l m : List UInt8, Op.bytesLess l m = true → Op.bytesLess m l = false
  | _, [], h => by cases h' : ‹List UInt8› <;> simp_all [Op.bytesLess]
  | [], _ :: _, _ => by simp [Op.bytesLess]
  | a :: x, b :: y, h => by
    simp only [Op.bytesLess, Bool.or_eq_true, decide_eq_true_eq, Bool.and_eq_true, beq_iff_eq] at h
    simp only [Op.bytesLess, Bool.or_eq_false_iff, decide_eq_false_iff_not, Bool.and_eq_false_imp, beq_iff_eq]
    rcases h with h | ⟨rfl, h⟩
    · exact ⟨UInt8.lt_asymm h, fun e => by subst e; exact absurd h (UInt8.lt_irrefl _)⟩
    · exact ⟨UInt8.lt_irrefl _, fun _ => bl_asym x y h⟩
theorem bl_total : ∀ l m : List UInt8, l ≠ m → Op.bytesLess l m = true ∨ Op.bytesLess m l = true
  | [], [], h => absurd rfl h
  | [], _ :: _, _ => by simp [Op.bytesLess]
  | _ :: _, [], _ => by simp [Op.bytesLess]
  | a :: x, b :: y, h => by
    simp only [Op.bytesLess, Bool.or_eq_true, decide_eq_true_eq, Bool.and_eq_true, beq_iff_eq]
    by_cases e : a = b
    · subst e
      rcases bl_total x y (fun e => h (by rw [e])) with h1 | h1
      · exact .inl (.inr ⟨rfl, h1⟩)
      · exact .inr (.inr ⟨rfl, h1⟩)
    · rcases UInt8.lt_or_lt_of_ne e with h1 | h1
      · exact .inl (.inl h1)
      · exact .inr (.inl h1)
theorem bl_trans : ∀ l m n : List UInt8, Op.bytesLess l m = true → Op.bytesLess m n = true → Op.bytesLess l n = true
  | _, _, [], _, h => by simp [Op.bytesLess] at h
  | _, [], _ :: _, h, _ => by simp [Op.bytesLess] at h
  | [], _ :: _, _ :: _, _, _ => by simp [Op.bytesLess]
  | a :: x, b :: y, c :: z, h1, h2 => by
    simp only [Op.bytesLess, Bool.or_eq_true, decide_eq_true_eq, Bool.and_eq_true, beq_iff_eq] at h1 h2 ⊢
    rcases h1 with h1 | ⟨rfl, h1⟩
    · rcases h2 with h2 | ⟨rfl, h2⟩
      · exact .inl (UInt8.lt_trans h1 h2)
      · exact .inl h1
    · rcases h2 with h2 | ⟨rfl, h2⟩
      · exact .inl h2
      · exact .inr ⟨rfl, bl_trans x y z h1 h2⟩
end Go.Proofs.Ythcjbljkokflgaa
