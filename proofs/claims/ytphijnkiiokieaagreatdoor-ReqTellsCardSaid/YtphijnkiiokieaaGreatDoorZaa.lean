/- Texts of one proof, joined. -/
import Derived.ProofKit
import Derived.OpenShut
import Derived.Deep.Upon
import Derived.Test.YtphijnkiiokieaaGreatDoorProg
import Derived.WalkSpells
import Derived.BigQuiet
import Derived.Lib.Hide
import Derived.Deep.RegionLaw
import Derived.Lib.SlBytesConst
import Derived.Deep.RegionHeld
set_option linter.unusedVariables false
set_option linter.unusedSimpArgs false
set_option maxRecDepth 100000
set_option maxHeartbeats 80000000
namespace Go.Proofs.YtphijnkiiokieaaGreatDoor
theorem Zh {p : Prop} (h : p) : Go.RowKit.Hid p := h
open Go.RowKit Go.WideShapes Go.ChangeShapes
section
variable {H : Type} {enc : TypeId × Value → H} {P : Program}
theorem trodAll_stays (hl : laidOutB P = true) {W W' : World} {sp : Nat → Bool} : ∀ {ts : List TypeId} {vs : List Value} {ds : List (DataW H)} {ps : List MemPlace},
  (∀ t ∈ ts, P.readableRec t = true ∧ t < P.types.size) → DataW.TrodAll enc P W 0 (fun _ => true) true ts vs ds ps → (∀ x ∈ ps, W.sameAt W' x) → (∀ x ∈ ps, sp x.block = true) → DataW.TrodAll enc P W' 0 sp true ts vs ds ps
 | [], [], [], _, _, h, _, _ => h
 | _ :: _, _ :: _, _ :: _, _, hT, ⟨p, q, h1, h2, e⟩, hsame, hs =>
  ⟨p, q, WideElems.Trod_stays hl (hT _ (List.mem_cons.2 (.inl rfl))).1 (hT _ (List.mem_cons.2 (.inl rfl))).2 h1 (fun x hx => hsame x (by rw [e]; exact List.mem_append_left _ hx)) (fun x hx => hs x (by rw [e]; exact List.mem_append_left _ hx)),
   trodAll_stays hl (fun t ht => hT t (List.mem_cons.2 (.inr ht))) h2 (fun x hx => hsame x (by rw [e]; exact List.mem_append_right _ hx)) (fun x hx => hs x (by rw [e]; exact List.mem_append_right _ hx)), e⟩
theorem post_of_below {f : Func} {s : ChangeSpec} {apart fresh handsOn again : Bool} {W W' : World} {args : Array Value} {v : Value} {ds gs : List (DataW H)} {before pa pv : List MemPlace}
  (hW : DataW.Whole enc P f.params.toList s.vars apart W args.toList ds gs before)
  (hres : ∀ (b : Nat) (sp : Nat → Bool) (hd : Bool), DataW.TrodAll enc P W' b sp hd f.resultTypes.toList (v.resultList f.resultTypes.size) (s.fn H (ds ++ gs)).results [])
  (hargs : ∀ sp : Nat → Bool, (∀ p ∈ before, sp p.block = true) → DataW.TrodAll enc P W' 0 sp true f.params.toList args.toList (s.fn H (ds ++ gs)).args pa)
  (hvars : ∀ sp : Nat → Bool, (∀ p ∈ before, sp p.block = true) → DataW.TrodVars enc P W' sp s.vars (s.fn H (ds ++ gs)).vars pv)
  (hps : before = pa ++ pv) (hb : Below W.heap.size W W')
  (hok : ∀ (j : Nat) (t : TypeId) (r : Value), f.resultTypes[j]? = some t → (v.resultList f.resultTypes.size)[j]? = some r → Value.okWide P W' .any 0 t r) :
  s.post enc P f apart fresh handsOn again W args v W' := by
 have hlt : ∀ p ∈ before, p.block < W.heap.size := fun p hp => hW.lt p hp
 have hold : ∀ p ∈ before, (fun b => decide (b < W.heap.size)) p.block = true := fun p hp => by simpa using hlt p hp
 refine ⟨ds, gs, before, [], pa, pv, hW, hres _ _ _, hargs _ hold, hvars _ hold, World.keptBut_mono (fun p hp => ⟨hp, ?_⟩) (hb.frame (· ∈ before)), fun _ => ?_⟩
 ·
  rw [hps, List.mem_append] at hp
  exact Or.inr hp
 ·
  obtain ⟨_, _, _, _, _, hz, hn⟩ := hW; refine ⟨hok, _, _, ([] ++ pa) ++ pv, ⟨[] ++ pa, pv, trodAll_append (hargs _ (fun _ _ => rfl)) (hres _ _ _), hvars _ (fun _ _ => rfl), rfl, ?_, ?_⟩, ?_⟩
  ·
   intro b off hp; have hin : MemPlace.cell b off ∈ before := by rw [hps]; simpa using hp
   rw [hb.frozen (hlt _ hin)]
   exact hz b off hin
  ·
   intro ha; have := hn ha; rw [hps] at this
   simpa using this
  ·
   intro p hp _; rw [hps]
   simpa using hp
theorem law_post {f : Func} {s : ChangeSpec} {handsOn again : Bool} {W W' : World} {args : Array Value} {ds : List (DataW H)} {before : List MemPlace} {tb : TypeId}
  (hl : laidOutB P = true) (hp : (f.params.toList.all fun t => P.readableRec t && decide (t < P.types.size)) = true)
  (hr : f.resultTypes = #[tb]) (hb4 : P.underlying tb = some .bool) (hs : s.vars = [])
  (hW : DataW.Whole enc P f.params.toList s.vars false W args.toList ds [] before)
  (hfn : s.fn H ds = { results := [.lit (.bool true)], args := ds }) (hb : Below W.heap.size W W') :
  s.post enc P f false true handsOn again W args (.bool true) W' := by
 have hlt : ∀ p ∈ before, p.block < W.heap.size := fun p hp => hW.lt p hp
 have hW' := hW; obtain ⟨p, q, hA, hV, hpq, _, _⟩ := hW; rw [hs] at hV; obtain ⟨_, hq⟩ := trodVars_none hV; subst hq; rw [List.append_nil] at hpq; subst hpq; refine post_of_below (pa := before) (pv := []) hW' (fun _ _ _ => ?_) (fun sp hsp => ?_) (fun _ _ => ?_) (by simp) hb ?_
 ·
  rw [List.append_nil, hfn, hr]
  exact trodAll_cons_mk (shut_bool hb4 _) trodAll_mk0
 ·
  rw [List.append_nil, hfn]
  exact trodAll_stays hl (fun t ht => by have := List.all_eq_true.1 hp t ht; simpa using this) hA (fun x hx => hb.same (hlt x hx)) hsp
 ·
  rw [List.append_nil, hfn, hs]
  exact rfl
 ·
  exact ok_one hr rfl (okWide_bool_mk hb4 _)
end
inductive Sh where
 | int (k : IntKind)
 | bool
 | str
 | agg (n : Nat) (l : List (Nat × Nat × Sh))
 | slice (n : Nat) (e : Sh)
mutual
def Sh.ok (w : World) : Sh → List Value → Prop
 | .int k, cs => ∃ a, cs = [.int k a] ∧ (Lit.int k a).wf = true
 | .bool, cs => ∃ b, cs = [.bool b]
 | .str, cs => ∃ s : ByteArray, cs = [.string s] ∧ s.size ≤ maxLen
 | .agg n l, cs => cs.length = n ∧ Sh.okAll w l cs
 | .slice n e, cs => cs = [.slice none 0 0] ∨ ∃ (a : Addr) (len cap : Nat), cs = [.slice (some a) len cap] ∧ len ≤ cap ∧ cap ≤ maxLen ∧
   ∀ i, i < len → ∃ cs', w.cells? 0 (a.add (i * n)) n = some cs' ∧ Sh.ok w e cs'
def Sh.okAll (w : World) : List (Nat × Nat × Sh) → List Value → Prop
 | [], _ => True
 | (o, n, s) :: r, cs => Sh.ok w s ((cs.drop o).take n) ∧ Sh.okAll w r cs
end
def shAll (P : Program) (sh : TypeId → Option Sh) : List Field → Option (List (Nat × Nat × Sh))
 | [] => some []
 | f :: r => match sh f.type, shAll P sh r with
  | some s, some l => some ((f.offset, P.cellsOf f.type, s) :: l)
  | _, _ => none
def sh (P : Program) : Nat → TypeId → Option Sh
 | 0, _ => none
 | n + 1, t => match P.underlying t with
  | some (.int k) => some (.int k)
  | some .bool => some .bool
  | some .string => some .str
  | some (.struct fs) => match shAll P (sh P n) fs.toList with
   | some l => some (.agg (P.cellsOf t) l)
   | none => none
  | some (.slice e) => match sh P n e with
   | some s => some (.slice (P.cellsOf e) s)
   | none => none
  | _ => none
section
variable {H : Type} {enc : TypeId × Value → H} {P : Program} {w : World} {spare : Nat → Bool} {held : Bool}
theorem shAll_ok {F : TypeId → Option Sh} {n : Nat} {cs : List Value} (hF : ∀ t s cs x, F t = some s → DataW.trod enc P w 0 spare held n t cs = some x → Sh.ok w s cs) :
  ∀ (fs : List Field) (l : List (Nat × Nat × Sh)), shAll P F fs = some l → (∀ f ∈ fs, ∃ x, DataW.trod enc P w 0 spare held n f.type ((cs.drop f.offset).take (P.cellsOf f.type)) = some x) → Sh.okAll w l cs
 | [], l, h, _ => by
  simp only [shAll, Option.some.injEq] at h; subst h
  simp [Sh.okAll]
 | f :: r, l, h, hx => by
  simp only [shAll] at h
  split at h
  next s l' h1 h2 =>
   simp only [Option.some.injEq] at h; subst h; obtain ⟨x, hx0⟩ := hx f (List.mem_cons.2 (.inl rfl)); simp only [Sh.okAll]
   exact ⟨hF _ _ _ _ h1 hx0, shAll_ok hF r l' h2 (fun g hg => hx g (List.mem_cons.2 (.inr hg)))⟩
  next => cases h
theorem sh_ok : ∀ (m : Nat) (t : TypeId) (s : Sh) (n : Nat) (cs : List Value) (x : DataW H × List MemPlace), sh P m t = some s → DataW.trod enc P w 0 spare held n t cs = some x → Sh.ok w s cs := by
 intro m
 induction m with
 | zero => intro t s n cs x h; simp [sh] at h
 | succ m ih =>
  intro t s n cs x h hx; simp only [sh] at h
  split at h
  next k hk =>
   simp only [Option.some.injEq] at h; subst h; obtain ⟨a, h1, _, h3⟩ := DataW.trod_int hk hx; simp only [Sh.ok]
   exact ⟨a, h1, h3⟩
  next hk =>
   simp only [Option.some.injEq] at h; subst h; obtain ⟨a, h1, _⟩ := DataW.trod_bool hk hx; simp only [Sh.ok]
   exact ⟨a, h1⟩
  next hk =>
   simp only [Option.some.injEq] at h; subst h; obtain ⟨a, h1, _, h3⟩ := DataW.trod_string hk hx; simp only [Sh.ok]
   exact ⟨a, h1, h3⟩
  next fs hk =>
   split at h
   next l hl =>
    simp only [Option.some.injEq] at h; subst h; obtain ⟨xs, n', _, _, hlen, hxl, hat⟩ := DataW.trod_struct hk hx; simp only [Sh.ok]; refine ⟨hlen, shAll_ok (n := n') (fun t s cs x h1 h2 => ih t s n' cs x h1 h2) fs.toList l hl (fun f hf => ?_)⟩; obtain ⟨i, hi, e⟩ := List.mem_iff_getElem.1 hf; have hi' : i < fs.size := by simpa using hi
    have h1 : fs[i]? = some f := by rw [Array.getElem?_eq_getElem hi']; simp at e; rw [e]
    have h2 := hat i f h1; rw [h2]
    exact ⟨_, List.getElem?_eq_getElem (by omega)⟩
   next => cases h
  next e hk =>
   split at h
   next s' hs' =>
    simp only [Option.some.injEq] at h; subst h; simp only [Sh.ok]
    rcases DataW.trod_slice hk hx with ⟨h1, _⟩ | ⟨a, len, cap, elems, rest, n', _, h1, _, _, hl, hm, hel, hc, _⟩
    ·
     exact .inl h1
    ·
     refine .inr ⟨a, len, cap, h1, hl, hm, fun i hi => ?_⟩; have h2 := hc i hi; rw [List.getElem?_eq_getElem (by omega)] at h2; obtain ⟨cs', h3, h4⟩ := Option.bind_eq_some_iff.1 h2
     exact ⟨cs', h3, ih e s' n' cs' _ hs' h4⟩
   next => cases h
  next => cases h
theorem arg_ok {t : TypeId} {s : Sh} {v : Value} {d : DataW H} {p : List MemPlace} (m : Nat) (hs : sh P m t = some s) (h : DataW.Trod enc P w 0 spare held t v d p) : Sh.ok w s v.cells.toList := by
 obtain ⟨n, hn⟩ := h
 exact sh_ok m t s n _ _ hs hn
end
end Go.Proofs.YtphijnkiiokieaaGreatDoor
namespace Go.Proofs.YtphijnkiiokieaaGreatDoor
open Go.RowKit
def Blk (w : World) (g : Nat) (t : TypeId) (cs : Array Value) : Prop := w.heap[g]? = some (.cells cs t (0, 0))
section
variable {w w' : World} {g : Nat} {t : TypeId} {cs : Array Value}
theorem Blk.lt (h : Blk w g t cs) : g < w.heap.size := by
 rcases Nat.lt_or_ge g w.heap.size with hlt | hge
 ·
  exact hlt
 ·
  unfold Blk at h; rw [Array.getElem?_eq_none hge] at h; cases h
theorem Blk.cell (h : Blk w g t cs) (i : Nat) : w.cell? ⟨g, i, none⟩ = cs[i]? := cell_of_row w g i cs t (0, 0) h
theorem Blk.frozen (h : Blk w g t cs) (i : Nat) : w.frozen? ⟨g, i, none⟩ = false := by
 unfold Blk at h
 simp [World.frozen?, h]
theorem Blk.new (w : World) (t : TypeId) (cs : Array Value) : Blk (w.alloc (.cells cs t)) w.heap.size t cs := heap_alloc_new w _
theorem Blk.drew (h : Blk w g t cs) : Blk w.drew g t cs := h
theorem Blk.drewN (h : Blk w g t cs) (n : Nat) : Blk (w.drewN n) g t cs := h
theorem Blk.alloc (h : Blk w g t cs) (o : Obj) : Blk (w.alloc o) g t cs := (Below.heap_alloc w o g h.lt).trans h
theorem Blk.set_ (h : Blk w g t cs) (i : Nat) (u : Value) : Blk (w.setCell ⟨g, i, none⟩ u) g t (cs.setIfInBounds i u) := by
 unfold Blk at h ⊢
 simp [World.setCell, Array.getElem?_modify, h]
theorem Blk.far (h : Blk w g t cs) {p : Addr} (hp : g ≠ p.block) (u : Value) : Blk (w.setCell p u) g t cs := (Below.heap_setCell w p u g hp).trans h
theorem Blk.below {B : Nat} (h : Blk w g t cs) (hb : Below B w w') (hg : g < B) : Blk w' g t cs := (hb.block g hg).trans h
theorem Blk.grown {row : Option Nat} (h : Blk w g t cs) (hb : w.grownBy w' row) (hg : some g ≠ row) : Blk w' g t cs := (hb.block g h.lt hg).trans h
end
theorem below_drewN {B : Nat} {a w : World} (h : Below B a w) (n : Nat) : Below B a (w.drewN n) := ⟨h.os, h.tape, h.output, h.size, h.block⟩
theorem only_drewN {a w : World} {row : Option Nat} (h : a.grownBy w row) (n : Nat) : a.grownBy (w.drewN n) row := ⟨h.os, h.tape, h.output, h.size, h.block⟩
theorem only_setCell {a w : World} {g : Nat} (h : a.grownBy w (some g)) {p : Addr} (hp : p.block = g ∨ a.heap.size ≤ p.block) (u : Value) : a.grownBy (w.setCell p u) (some g) :=
 ⟨h.os, h.tape, h.output, by simpa [World.setCell] using h.size, fun i hi hne => (Below.heap_setCell w p u i (by
  rintro rfl
  rcases hp with hp | hp
  ·
   exact hne (by rw [hp])
  ·
   omega)).trans (h.block i hi hne)⟩
theorem ret_i64 {a b : Int} (h : a = b) : Ending.returned (Value.int .i64 a) = .returned (.int .i64 b) := by rw [h]
theorem ret_bool {a b : Bool} (h : a = b) : Ending.returned (Value.bool a) = .returned (.bool b) := by rw [h]
theorem cell_lt {w : World} {p : Addr} {v : Value} (h : w.cell? p = some v) : p.block < w.heap.size := by
 rcases Nat.lt_or_ge p.block w.heap.size with hlt | hge
 ·
  exact hlt
 ·
  unfold World.cell? at h
  rw [Array.getElem?_eq_none hge] at h
  cases h
theorem add_plain (b off n : Nat) : (⟨b, off, none⟩ : Addr).add n = ⟨b, off + n, none⟩ := by
 unfold Addr.add
 split
 ·
  next h => subst h; rfl
 ·
  rfl
theorem slice_at {w : World} {A : Option Addr} {len cap n : Nat} {e : Sh} (S : Sh.ok w (.slice n e) [.slice A len cap]) (hn : 0 < n) :
  ∃ b off, len ≤ cap ∧ cap ≤ maxLen ∧ (0 < len → A = some ⟨b, off, none⟩ ∧ b < w.heap.size) ∧
   ∀ i, i < len → ∃ cs, cs.length = n ∧ Sh.ok w e cs ∧ ∀ j, j < n → w.cell? ⟨b, off + i * n + j, none⟩ = cs[j]? := by
 simp only [Sh.ok] at S
 rcases S with S | ⟨a, l, c, e1, hl, hm, hc⟩
 ·
  simp at S
  obtain ⟨rfl, rfl, rfl⟩ := S
  exact ⟨0, 0, Nat.le_refl _, by unfold maxLen; omega, fun h => absurd h (by omega), fun i h => absurd h (by omega)⟩
 ·
  simp at e1
  obtain ⟨rfl, rfl, rfl⟩ := e1
  rcases Nat.eq_zero_or_pos len with h0 | h0
  ·
   exact ⟨0, 0, hl, hm, fun h => absurd h (by omega), fun i h => absurd h (by omega)⟩
  ·
   obtain ⟨cs, hcs, _⟩ := hc 0 h0; obtain ⟨_, hlen, hat⟩ := World.cells?_some hcs; have h00 := hat 0 hn; rw [List.getElem?_eq_getElem (by omega)] at h00; have hsp : a.spot = none := by simpa [Addr.add] using World.cell?_spot h00
   have hlt := cell_lt h00; obtain ⟨b, off, sp⟩ := a
   simp at hsp
   subst hsp; refine ⟨b, off, hl, hm, fun _ => ⟨rfl, by simpa [Addr.add] using hlt⟩, fun i hi => ?_⟩; obtain ⟨cs', hcs', hok⟩ := hc i hi; obtain ⟨_, hlen', hat'⟩ := World.cells?_some hcs'; refine ⟨cs', hlen', hok, fun j hj => ?_⟩; have := hat' j hj
   rwa [add_plain, add_plain] at this
def bv (u : UInt8) : Value := .int .u8 (u.toNat : Int)
def Own (e : TypeId) (B : Nat) (w : World) (v : Value) (l : List UInt8) : Prop :=
 ∃ ao cap, v = .slice ao l.length cap ∧ l.length ≤ cap ∧ cap ≤ maxLen ∧ (cap = 0 ∨ ∃ g cur, ao = some ⟨g, 0, none⟩ ∧ B ≤ g ∧ w.heap[g]? = some (.cells cur e (0, 0)) ∧ cur.size = cap ∧ cur.toList.take l.length = l.map bv)
theorem setCells_row (g : Nat) (e : TypeId) (fr : Nat × Nat) : ∀ (vs : List Value) (o : Nat) (cur : Array Value) (w : World), w.heap[g]? = some (.cells cur e fr) → o + vs.length ≤ cur.size →
  ∃ cur' : Array Value, (w.setCells g o vs).heap[g]? = some (.cells cur' e fr) ∧ cur'.size = cur.size ∧ cur'.toList.take (o + vs.length) = cur.toList.take o ++ vs := by
 intro vs
 induction vs with
 | nil => intro o cur w h _; exact ⟨cur, h, rfl, by simp⟩
 | cons v vs ih =>
  intro o cur w h hl; simp only [List.length_cons] at hl; have h1 : (w.setCell ⟨g, o, none⟩ v).heap[g]? = some (.cells (cur.setIfInBounds o v) e fr) := by simp [World.setCell, Array.getElem?_modify, h]
  obtain ⟨cur', h2, h3, h4⟩ := ih (o + 1) _ _ h1 (by simp; omega); refine ⟨cur', h2, by simpa using h3, ?_⟩; rw [List.length_cons, show o + (vs.length + 1) = o + 1 + vs.length by omega, h4]; have : (cur.setIfInBounds o v).toList.take (o + 1) = cur.toList.take o ++ [v] := by
   rw [List.take_succ_eq_append_getElem (by simp; omega)]
   congr 1
   ·
    simp [List.take_set_of_le]
   ·
    simp
  rw [this]; simp
theorem setCells_below (B g : Nat) (hg : B ≤ g) : ∀ (vs : List Value) (o : Nat) (w0 w : World), Below B w0 w → Below B w0 (w.setCells g o vs) := by
 intro vs
 induction vs with
 | nil => intro o w0 w h; exact h
 | cons v vs ih => intro o w0 w h; exact ih (o + 1) w0 _ (h.setCell (p := ⟨g, o, none⟩) hg v)
theorem own_append {P : Program} {e t tx ty : TypeId} {i : TypeInfo} {z : Value} (ht : P.underlying t = some (.slice e)) (hi : P.info? e = some i) (hz : i.zero = some z) (hsz : i.size = 1) (hby : i.bytes = 1) (hzs : z.cells.size = 1)
  {B : Nat} {w : World} {v : Value} {l : List UInt8} (h : Own e B w v l) (hB : B ≤ w.heap.size) (x : Value) (more : List UInt8) (hs : Src P 1 tx x more.length (more.map bv) w) (h63 : l.length + more.length ≤ 140737488355328) :
  ∃ v' w', (Builtin.append_ #[t, tx] ty #[v, x]).run P w = .ok v' w' ∧ Own e B w' v' (l ++ more) ∧ Below B w w' := by
 obtain ⟨ao, cap, rfl, hle, hmax, hrow⟩ := h; rw [← hsz] at hs
 by_cases hr : l.length + more.length ≤ cap
 ·
  rcases hrow with h0 | ⟨g, cur, rfl, hg, hh, hcs, htk⟩
  ·
   subst h0; have hl0 : l = [] := List.length_eq_zero_iff.1 (by omega); have hm0 : more = [] := List.length_eq_zero_iff.1 (by omega)
   subst hl0; subst hm0
   refine ⟨.slice ao 0 0, w, run_append_nothing w t tx ty e i ht hi ao 0 0 (Nat.le_refl _) x hs, ⟨ao, 0, rfl, Nat.le_refl _, hmax, .inl rfl⟩, Below.refl _ _⟩
  ·
   have hrun := run_append_room_src (P := P) w t tx ty e i ht hi g 0 l.length cap x more.length (more.map bv) hs hr (fun j hj => by
    rw [cell_of_row w g _ cur e (0, 0) hh]; simp at hj; rw [hsz]; simp; omega) (fun j hj => by simp [World.frozen?, hh])
   obtain ⟨cur', h2, h3, h4⟩ := setCells_row g e (0, 0) (more.map bv) (0 + l.length * i.size) cur w hh (by rw [hsz]; simp; omega); refine ⟨_, _, hrun, ⟨some ⟨g, 0, none⟩, cap, by rw [List.length_append], by rw [List.length_append]; exact hr, hmax, .inr ⟨g, cur', rfl, hg, h2, h3.trans hcs, ?_⟩⟩, setCells_below B g hg _ _ _ _ (Below.refl _ _)⟩; rw [hsz] at h4; simp only [Nat.zero_add, Nat.mul_one, List.length_map] at h4; rw [List.length_append, h4, htk, List.map_append]
 ·
  have hold : (Builtin.firstCells i.size l.length (.slice ao l.length cap)).run P w.drew = .ok (l.map bv).toArray w.drew := by
   rcases hrow with h0 | ⟨g, cur, rfl, hg, hh, hcs, htk⟩
   ·
    have hl0 : l = [] := List.length_eq_zero_iff.1 (by omega); subst hl0
    cases ao with
    | none => exact run_firstCells_none _ _ _ _ _
    | some a => exact run_firstCells_some w.drew i.size 0 a 0 cap [] (by simp) (fun j u hu => by simp at hu)
   ·
    exact run_firstCells_some w.drew i.size l.length ⟨g, 0, none⟩ l.length cap (l.map bv) (by rw [hsz]; simp) (fun j u hu => by
     rw [add_plain, Nat.zero_add]
     show w.cell? _ = _
     rw [cell_of_row w g j cur e (0, 0) hh]; rw [← htk, List.getElem?_take] at hu
     split at hu
     ·
      simpa using hu
     ·
      cases hu)
  have hrun := run_append_grow_src (P := P) w t tx ty e i z ht hi hz ao l.length cap (l.map bv) hold x more.length (more.map bv) hs (by omega) (by omega) (by rw [hby]; exact growslice_fits (by omega) (by omega)); refine ⟨_, _, hrun, ⟨_, _, by rw [List.length_append], ?_, ?_, .inr ⟨w.heap.size, _, rfl, hB, heap_alloc_new _ _, ?_, ?_⟩⟩, ((Below.refl _ _).drew).alloc hB _⟩
  ·
   rw [List.length_append]; exact grownCap_ge _ _ _ _
  ·
   exact grownCap_le_maxLen _ _ _ _ (by unfold maxLen; omega)
  ·
   have := grownCap_ge w (l.length + more.length) cap e
   simp [Builtin.zeroCells, hzs]
   omega
  ·
   rw [List.length_append, ← List.map_append, Array.toList_append, List.take_append_of_le_length (by simp)]
   exact List.take_of_length_le (by simp)
theorem Own.reads {e : TypeId} {B : Nat} {w : World} {v : Value} {l : List UInt8} (h : Own e B w v l) :
  ∃ A cap b, v = .slice A l.length cap ∧ l.length ≤ cap ∧ cap ≤ maxLen ∧ (0 < l.length → A = some ⟨b, 0, none⟩ ∧ b < w.heap.size) ∧ (0 < l.length → B ≤ b) ∧ ∀ j u, l[j]? = some u → w.cell? ⟨b, 0 + j, none⟩ = some (.int .u8 (u.toNat : Int)) := by
 obtain ⟨ao, cap, rfl, hle, hmax, hrow⟩ := h
 rcases hrow with h0 | ⟨g, cur, rfl, hg, hh, hcs, htk⟩
 ·
  have hl0 : l = [] := List.length_eq_zero_iff.1 (by omega); subst hl0
  exact ⟨ao, cap, 0, rfl, hle, hmax, fun h => absurd h (by simp), fun h => absurd h (by simp), fun j u hu => by simp at hu⟩
 ·
  refine ⟨_, cap, g, rfl, hle, hmax, fun _ => ⟨rfl, ?_⟩, fun _ => hg, fun j u hu => ?_⟩
  ·
   rcases Nat.lt_or_ge g w.heap.size with hlt | hge
   ·
    exact hlt
   ·
    rw [Array.getElem?_eq_none hge] at hh; cases hh
  ·
   rw [Nat.zero_add, cell_of_row w g j cur e (0, 0) hh]; have hj : (l.map bv)[j]? = some (bv u) := by rw [List.getElem?_map, hu]; rfl
   rw [← htk, List.getElem?_take] at hj
   split at hj
   ·
    rw [← Array.getElem?_toList]; exact hj
   ·
    cases hj
theorem Own.below {e : TypeId} {B : Nat} {w w' : World} {v : Value} {l : List UInt8} (h : Own e B w v l) (hb : Below w.heap.size w w') : Own e B w' v l := by
 obtain ⟨ao, cap, rfl, hle, hmax, hrow⟩ := h; refine ⟨ao, cap, rfl, hle, hmax, hrow.imp id fun ⟨g, cur, h1, hg, hh, h2⟩ => ⟨g, cur, h1, hg, ?_, h2⟩⟩; have hlt : g < w.heap.size := by
  rcases Nat.lt_or_ge g w.heap.size with hlt | hge
  ·
   exact hlt
  ·
   rw [Array.getElem?_eq_none hge] at hh; cases hh
 rw [hb.block g hlt]
 exact hh
theorem Own.nil (e : TypeId) (B : Nat) (w : World) (ao : Option Addr) : Own e B w (.slice ao 0 0) [] := ⟨ao, 0, rfl, Nat.le_refl _, Nat.zero_le _, .inl rfl⟩
theorem Own.mono {e : TypeId} {B B' : Nat} {w : World} {v : Value} {l : List UInt8} (h : Own e B w v l) (hb : B' ≤ B) : Own e B' w v l := by
 obtain ⟨ao, cap, h1, hle, hmax, hrow⟩ := h
 exact ⟨ao, cap, h1, hle, hmax, hrow.imp id fun ⟨g, cur, h2, hg, h3⟩ => ⟨g, cur, h2, Nat.le_trans hb hg, h3⟩⟩
theorem i64_and (a b : Int) (h3 : 0 ≤ b) (h4 : b < 9223372036854775808) : bits .and .i64 a b = (((BitVec.ofInt 64 a).toNat &&& b.toNat : Nat) : Int) := by
  obtain ⟨B, rfl⟩ := Int.eq_ofNat_of_zero_le h3; have hx : (BitVec.ofInt 64 a).toNat &&& B < 2 ^ 63 := Nat.and_lt_two_pow _ (by omega)
  show IntKind.i64.wrap ((BitVec.ofInt 64 a &&& BitVec.ofInt 64 (B : Int)).toNat : Int) = _
  rw [BitVec.toNat_and, ofInt_u64 B (by omega), IntWalk.i64_in _ (by omega)]
  rfl
theorem i64_low (a : Int) (i : Nat) (hi : i < 63) : bits .and .i64 a (2 ^ i - 1) = a % 2 ^ i := by
  have hp : (2 : Int) ^ i ≤ 2 ^ 62 := by exact_mod_cast Nat.pow_le_pow_right (by omega) (show i ≤ 62 by omega)
  have hq : (0 : Int) < 2 ^ i := by exact_mod_cast Nat.two_pow_pos i
  have e : ((2 : Int) ^ i - 1).toNat = 2 ^ i - 1 := by have : ((2 : Int) ^ i) = ((2 ^ i : Nat) : Int) := by push_cast; rfl
                                                       omega
  rw [i64_and a _ (by omega) (by omega), e, Nat.and_two_pow_sub_one_eq_mod, BitVec.toNat_ofInt]; have h64 : ((2 : Int) ^ i) ∣ 2 ^ 64 := by exact_mod_cast Int.natCast_dvd_natCast.2 (Nat.pow_dvd_pow 2 (show i ≤ 64 by omega))
  rw [Int.natCast_emod, Int.toNat_of_nonneg (Int.emod_nonneg _ (by decide))]; rw [show (((2 ^ i : Nat) : Int)) = 2 ^ i by exact_mod_cast rfl]
  exact Int.emod_emod_of_dvd _ h64
structure Byt (w : World) (A : Option Addr) (len cap b off : Nat) (l : List UInt8) : Prop where
  hlen : l.length = len
  le : len ≤ cap
  hmax : cap ≤ maxLen
  addr : 0 < len → A = some ⟨b, off, none⟩ ∧ b < w.heap.size
  cell : ∀ j u, l[j]? = some u → w.cell? ⟨b, off + j, none⟩ = some (.int .u8 (u.toNat : Int))
theorem p_info5 : (Tryz.prog.info? 5).map (fun i => (i.zero, i.size, i.bytes)) = some (some (.int .u8 0), 1, 1) := by kernel_rfl
theorem p_wpList_own_append {P : Program} {e t tx : TypeId} (w : World) {ops : Array Oper} {rest : List Oper} {o : Oper} {a : Act} {Q : Exit → Act → World → Prop} (hgd : o.guard = none) (s x : Operand)
    (ho : o.op = .call { callee := .builtin .append, args := #[s, x], argTypes := #[t, tx] }) {i : TypeInfo} {z : Value} (ht : P.underlying t = some (.slice e)) (hi : P.info? e = some i) (hz : i.zero = some z) (hsz : i.size = 1) (hby : i.bytes = 1) (hzs : z.cells.size = 1)
    {B : Nat} {v : Value} {l : List UInt8} (hv : a.eval s = v) (h : Own e B w v l) (hB : B ≤ w.heap.size) (xv : Value) (hx : a.eval x = xv) (more : List UInt8) (hs : Src P 1 tx xv more.length (more.map bv) w) (h63 : l.length + more.length ≤ 140737488355328)
    (hK : ∀ v' w', Own e B w' v' (l ++ more) → Below B w w' → wpList P ops Q rest (a.put o.dst v') w') : wpList P ops Q (o :: rest) a w := by
  refine wpList_plain hgd fun K hK' => ?_
  obtain ⟨v', w', hrun, r1, r2⟩ := own_append (P := P) (ty := o.type) ht hi hz hsz hby hzs h hB xv more hs h63
  unfold Oper.wp
  simp [execOp, ho, resolve, invoke, builtin, hv, hx, hrun, Result.andThen]
  exact hK' _ _ (hK v' w' r1 r2)
theorem Byt.below {w w' : World} {A : Option Addr} {len cap b off : Nat} {l : List UInt8} (h : Byt w A len cap b off l) (hb : Below w.heap.size w w') : Byt w' A len cap b off l :=
  ⟨h.hlen, h.le, h.hmax, fun hz => ⟨(h.addr hz).1, Nat.lt_of_lt_of_le (h.addr hz).2 hb.size⟩, fun j u hu => by
    have hl : 0 < len := by
      rw [← h.hlen]; have := (List.getElem?_eq_some_iff.1 hu).1
      omega
    exact (World.cell?_of_block (hb.block b (h.addr hl).2)).trans (h.cell j u hu)⟩
theorem Byt.src {w : World} {a : Addr} {len cap b off : Nat} {l : List UInt8} (h : Byt w (some a) len cap b off l) : Src Tryz.prog 1 27 (.slice (some a) len cap) l.length (l.map bv) w := by
  rcases Nat.eq_zero_or_pos len with hz | hz
  · have hl := h.hlen
    subst hz; have hl0 : l = [] := List.length_eq_zero_iff.1 hl; subst hl0
    exact Src.ofSlice w Tryz.underlying27 _ _ _ _ (by simp) (fun j u hu => by simp at hu) (fun u hu => by simp at hu)
  obtain ⟨ha, _⟩ := h.addr hz
  simp at ha
  subst ha; rw [← h.hlen]
  exact Src.ofSlice w Tryz.underlying27 _ _ _ _ (by simp) (fun j u hu => by
    rw [List.getElem?_map] at hu
    cases hj : l[j]? with
    | none => rw [hj] at hu; cases hu
    | some x => rw [hj] at hu; simp at hu; subst hu; rw [add_plain]; exact h.cell j x hj) (fun u hu => by
    obtain ⟨x, _, rfl⟩ := List.mem_map.1 hu
    rfl)
theorem clone_some {a : Addr} {len cap b off : Nat} {w : World} {l : List UInt8} (h : Byt w (some a) len cap b off l) (hm : len ≤ 140737488355328) :
    Calls Tryz.prog 72 #[.slice (some a) len cap] w fun e w' => ∃ v, e = .returned v ∧ Own 5 w.heap.size w' v l ∧ Below w.heap.size w w' := by
  have HB := Zh h; have hq : ∀ W, (binOp .eql 27 (.slice (some a) len cap) (.slice none 0 0)).run Tryz.prog W = .ok (.bool false) W := fun W => Lib.run_eql_slice_nil W 27 _ (some a) len cap 0 0 Tryz.underlying27
  obtain ⟨i0, hi, hz0, hz1, hz2⟩ := info_parts p_info5; clear h
  go_enter Tryz.func72, Tryz.ntmps72
  have HA : Below w.heap.size w (w.alloc (Obj.cells #[] 5)) := (Below.refl _ _).alloc (Nat.le_refl _) _; have HB2 := Zh (HB.out.below HA); have HA2 := Zh HA; clear HA
  go_wp2_with (at_builtin; refine p_wpList_own_append (t := 27) (tx := 27) (z := .int .u8 0) _ rfl (.tmp 5) (.tmp 6) rfl Tryz.underlying27 hi hz0 hz1 hz2 rfl rfl (Own.nil 5 w.heap.size _ _) (by simp) _ rfl l (HB2.out.src) (by simpa [HB.out.hlen] using hm) ?_)
  intro v' w' h1 h2; have H1 := Zh h1; have H2 := Zh h2; clear h1 h2
  go_wp2
  go_ret
  exact ⟨v', rfl, H1.out, HA2.out.trans H2.out⟩
theorem clone_none (len cap : Nat) (w : World) :
    Calls Tryz.prog 72 #[.slice none len cap] w fun e w' => e = .returned (.slice none 0 0) ∧ w = w' := by
  have hq : ∀ W, (binOp .eql 27 (.slice none len cap) (.slice none 0 0)).run Tryz.prog W = .ok (.bool true) W := fun W => Lib.run_eql_slice_nil W 27 _ none len cap 0 0 Tryz.underlying27
  go_enter Tryz.func72, Tryz.ntmps72
  go_wp2
  go_ret
  exact ⟨rfl, rfl⟩
theorem clone_any {A : Option Addr} {len cap b off : Nat} {w : World} {l : List UInt8} (h : Byt w A len cap b off l) (hm : len ≤ 140737488355328) :
    Calls Tryz.prog 72 #[.slice A len cap] w fun e w' => ∃ v, e = .returned v ∧ Own 5 w.heap.size w' v l ∧ Below w.heap.size w w' := by
  cases A with
  | some a => exact clone_some h hm
  | none =>
    refine (clone_none len cap w).mono ?_; rintro e w' ⟨rfl, rfl⟩; have hl : l = [] := by
      apply List.length_eq_zero_iff.1
      rw [h.hlen]
      rcases Nat.eq_zero_or_pos len with hz | hz
      · exact hz
      · cases (h.addr hz).1
    subst hl
    exact ⟨_, rfl, Own.nil _ _ _ _, Below.refl _ _⟩
theorem bv_ofNat (n : Nat) : bv (UInt8.ofNat n) = .int .u8 (IntKind.u8.wrap (n : Int)) := by
  unfold bv
  rw [IntKind.wrap_u8', UInt8.toNat_ofNat']
  congr 1
theorem str_src (s : ByteArray) (W : World) : Src Tryz.prog 1 9 (.string s) s.data.toList.length (s.data.toList.map bv) W := by
  have h := Src.ofString (P := Tryz.prog) (tx := 9) W Tryz.underlying9 s; have e : s.data.toList.length = s.size := Array.length_toList; rw [e]
  exact h
theorem byt_open {w : World} {A : Option Addr} {len cap : Nat} (S : Sh.ok w (Sh.slice 1 (Sh.int .u8)) [.slice A len cap]) : ∃ b off l, Byt w A len cap b off l := by
  obtain ⟨b, off, hle, hmax, ha, hc⟩ := slice_at S (by omega); have H : ∀ i, i < len → ∃ u : UInt8, w.cell? ⟨b, off + i, none⟩ = some (.int .u8 (u.toNat : Int)) := by
    intro i hi; obtain ⟨cs, hl, hok, hcell⟩ := hc i hi; simp only [Sh.ok] at hok; obtain ⟨x, rfl, wf⟩ := hok; have hx : 0 ≤ x ∧ x ≤ 255 := by simpa [Lit.wf, IntKind.min, IntKind.max, IntKind.signed, IntKind.bits] using wf
    have := hcell 0 (by omega)
    simp at this
    exact ⟨UInt8.ofNat x.toNat, by rw [this, UInt8.toNat_ofNat']; congr 2; omega⟩
  refine ⟨b, off, List.ofFn (fun i : Fin len => Classical.choose (H i.1 i.2)), by simp, hle, hmax, ha, fun j u hu => ?_⟩; have hj : j < len := by have := (List.getElem?_eq_some_iff.1 hu).1; simpa using this
  rw [List.getElem?_eq_getElem (by simpa using hj)] at hu; simp only [List.getElem_ofFn, Option.some.injEq] at hu; rw [← hu]
  exact Classical.choose_spec (H j hj)
theorem Own.byt {e : TypeId} {B : Nat} {w : World} {v : Value} {l : List UInt8} (h : Own e B w v l) : ∃ A cap b, v = .slice A l.length cap ∧ Byt w A l.length cap b 0 l := by
  obtain ⟨A, cap, b, rfl, hle, hmax, ha, hb, hc⟩ := h.reads
  exact ⟨A, cap, b, rfl, rfl, hle, hmax, ha, fun j u hu => hc j u hu⟩
theorem Own.bytL {e : TypeId} {B : Nat} {w : World} {v : Value} {l : List UInt8} (h : Own e B w v l) : ∃ A L cap b, v = .slice A L cap ∧ L = l.length ∧ L ≤ cap ∧ cap ≤ maxLen ∧ Byt w A L cap b 0 l := by
  obtain ⟨A, cap, b, rfl, hb⟩ := h.byt
  exact ⟨A, _, cap, b, rfl, rfl, hb.le, hb.hmax, hb⟩
theorem Own.bytS {e : TypeId} {B : Nat} {w : World} {A : Option Addr} {L cap : Nat} {l : List UInt8} (h : Own e B w (.slice A L cap) l) : ∃ b, Byt w A L cap b 0 l := by
  obtain ⟨A', cap', b, hv, hb⟩ := h.byt
  simp at hv
  obtain ⟨rfl, rfl, rfl⟩ := hv
  exact ⟨b, hb⟩
theorem Byt.srcs {w : World} {A : Option Addr} {len cap b off : Nat} {l : List UInt8} (h : Byt w A len cap b off l) : Src Tryz.prog 1 27 (.slice A len cap) l.length (l.map bv) w := by
  cases A with
  | some a => exact h.src
  | none =>
    have hz : len = 0 := by
      rcases Nat.eq_zero_or_pos len with hz | hz
      · exact hz
      · have := (h.addr hz).1; cases this
    have hl := h.hlen; subst hz; have hl0 : l = [] := List.length_eq_zero_iff.1 hl; subst hl0
    exact Src.ofNil w Tryz.underlying27 _
theorem sub_bytes {W : World} {b off len cap : Nat} {l : List UInt8} (hc : ∀ j u, l[j]? = some u → W.cell? ⟨b, off + j, none⟩ = some (.int .u8 (u.toNat : Int))) (hl : l.length = len) :
    (convert 27 9 (.slice (some ⟨b, off, none⟩) len cap)).run Tryz.prog W = .ok (.string ⟨l.toArray⟩) W := by
  subst hl
  exact run_convert_bytes_back _ 27 9 5 _ cap l Tryz.underlying27 Tryz.underlying5 Tryz.underlying9 (fun j hj => by rw [add_plain]; exact hc j _ (List.getElem?_eq_getElem hj))
theorem own_text {e : TypeId} {B : Nat} {w : World} {v : Value} {l : List UInt8} (h : Own e B w v l) : (convert 27 9 v).run Tryz.prog w = .ok (.string ⟨l.toArray⟩) w := by
  obtain ⟨A, cap, b, rfl, hle, hmax, ha, hb, hc⟩ := h.reads
  rcases Nat.eq_zero_or_pos l.length with hz | hz
  · have hl0 : l = [] := List.length_eq_zero_iff.1 hz
    subst hl0; rw [run_convert_bytes_string w 27 9 5 _ _ cap Tryz.underlying27 Tryz.underlying5 Tryz.underlying9]
    cases A <;> simp [Conv.bytesToString, loadCells]
    all_goals rfl
  · rw [(ha hz).1]
    exact run_convert_bytes_back w 27 9 5 _ cap l Tryz.underlying27 Tryz.underlying5 Tryz.underlying9 (fun j hj => by rw [add_plain]; exact hc j _ (List.getElem?_eq_getElem hj))
theorem byt_text {w : World} {A : Option Addr} {len cap b off : Nat} {l : List UInt8} (h : Byt w A len cap b off l) : (convert 27 9 (.slice A len cap)).run Tryz.prog w = .ok (.string ⟨l.toArray⟩) w := by
  rcases Nat.eq_zero_or_pos len with hz | hz
  · have hl := h.hlen
    subst hz; have hl0 : l = [] := List.length_eq_zero_iff.1 hl; subst hl0; rw [run_convert_bytes_string w 27 9 5 _ _ cap Tryz.underlying27 Tryz.underlying5 Tryz.underlying9]
    cases A <;> simp [Conv.bytesToString, loadCells]
    all_goals rfl
  · rw [(h.addr hz).1]
    exact sub_bytes h.cell h.hlen
set_option maxRecDepth 100000
theorem idx_str (s : ByteArray) (i : Nat) (j : Int) (e : j = (i : Int)) {u : UInt8} (h : s.data.toList[i]? = some u) (W : World) : (Instr.index 9 (.string s) (.int .i64 j)).run Tryz.prog W = .ok (.int .u8 (u.toNat : Int)) W := by
  subst e; obtain ⟨hi, hu⟩ := List.getElem?_eq_some_iff.1 h; have hi2 : i < s.size := by simpa using hi
  rw [run_index_string _ _ _ _ _ Tryz.underlying9, dif_pos (by omega)]; rw [← hu]
  rfl
end Go.Proofs.YtphijnkiiokieaaGreatDoor
