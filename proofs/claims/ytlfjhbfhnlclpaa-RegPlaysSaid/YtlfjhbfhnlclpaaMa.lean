/- RegPlays: places in a rising list; rows that are made anew. -/
import Derived.Test.YtlfjhbfhnlclpaaKb
import Derived.Deep.AppendLies
import Derived.Deep.RegionLaw
namespace Go.Proofs.Ytlfjhbfhnlclpaa
open Go.RowKit
open Go.Lib
open Go.ChangeShapes Go.ChangeAt
set_option linter.unusedVariables false
set_option linter.unusedSimpArgs false
set_option maxRecDepth 100000
def lplace (k : ByteArray) : List ByteArray → Nat × Bool
  | [] => (0, false)
  | x :: l => if klt x k = true then ((lplace k l).1 + 1, (lplace k l).2) else (0, decide (x = k))
theorem lplace_skip (k : ByteArray) : ∀ (l : List ByteArray) (q : Nat), q ≤ l.length → (∀ x ∈ l.take q, klt x k = true) → lplace k l = ((lplace k (l.drop q)).1 + q, (lplace k (l.drop q)).2)
  | l, 0, _, _ => rfl
  | [], q + 1, h, _ => absurd h (by simp)
  | x :: l, q + 1, h, hs => by
    have hx : klt x k = true := hs x (by simp)
    conv => lhs; unfold lplace
    rw [if_pos hx, lplace_skip k l q (by simpa using h) (fun y hy => hs y (by simp [hy]))]
    simp only [List.drop_succ_cons]
    rfl
theorem lplace_le (k : ByteArray) : ∀ l : List ByteArray, (lplace k l).1 ≤ l.length
  | [] => Nat.le_refl _
  | x :: l => by
    unfold lplace
    have := lplace_le k l
    split
    · simp only [List.length_cons]; omega
    · exact Nat.zero_le _
theorem lplace_all {x : ByteArray} (v : Int) : ∀ {L : LN}, Srt L →
    ((lplace x (keysL L)).2 = true → ∃ u, L[(lplace x (keysL L)).1]? = some (x, u)) ∧
    insL x v L = (if (lplace x (keysL L)).2 = true then L.set (lplace x (keysL L)).1 (x, v) else L.take (lplace x (keysL L)).1 ++ (x, v) :: L.drop (lplace x (keysL L)).1) ∧
    delL x L = (if (lplace x (keysL L)).2 = true then L.eraseIdx (lplace x (keysL L)).1 else L) ∧
    getL x L = (if (lplace x (keysL L)).2 = true then (L[(lplace x (keysL L)).1]?).map Prod.snd else none) ∧
    plc x L = (lplace x (keysL L)).1
  | [], _ => ⟨fun h => (by cases h), rfl, rfl, rfl, rfl⟩
  | p :: L, hs => by
    obtain ⟨h1, h2⟩ := List.pairwise_cons.1 hs
    have e : lplace x (keysL (p :: L)) = if klt p.1 x = true then ((lplace x (keysL L)).1 + 1, (lplace x (keysL L)).2) else (0, decide (p.1 = x)) := rfl
    by_cases hlt : klt p.1 x = true
    · rw [if_pos hlt] at e
      rw [e]
      obtain ⟨i1, i2, i3, i4, i5⟩ := lplace_all v h2
      have hne : p.1 ≠ x := fun e => by rw [e, klt_irr] at hlt; cases hlt
      refine ⟨fun h => ?_, ?_, ?_, ?_, ?_⟩
      · simpa using i1 h
      · have e3 : insL x v (p :: L) = p :: insL x v L := by
          conv => lhs; unfold insL
          rw [if_neg (by rw [klt_asym hlt]; decide), if_neg (fun e => hne e.symm)]
        rw [e3, i2]
        simp only
        split
        · rfl
        · rfl
      · have e3 : delL x (p :: L) = p :: delL x L := by unfold delL; rw [List.filter_cons, if_pos (by simpa using hne)]
        rw [e3, i3]
        simp only
        split
        · rfl
        · rfl
      · rw [getL_cons, if_neg (fun e => hne e.symm), i4]
        simp
      · show (List.filter _ (p :: L)).length = _
        rw [List.filter_cons, if_pos hlt, List.length_cons]
        have : plc x L = (L.filter fun q => klt q.1 x).length := rfl
        rw [← this, i5]
    · rw [if_neg hlt] at e
      rw [e]
      by_cases he : p.1 = x
      · have hgt : ∀ a ∈ L, klt x a.1 = true := fun a ha => he ▸ h1 a ha
        rw [decide_eq_true he]
        refine ⟨fun _ => ⟨p.2, ?_⟩, ?_, ?_, ?_, ?_⟩
        · show some p = _
          rw [← he]
        · conv => lhs; unfold insL
          rw [if_neg (by rw [← he, klt_irr]; decide), if_pos he.symm]
          rfl
        · show delL x (p :: L) = L
          unfold delL
          rw [List.filter_cons, if_neg (by simp [he])]
          exact delL_id (fun a ha e => by have := hgt a ha; rw [e, klt_irr] at this; cases this)
        · rw [getL_cons, if_pos he.symm]; rfl
        · show (List.filter _ (p :: L)).length = 0
          rw [List.filter_cons, if_neg hlt]
          rw [List.filter_eq_nil_iff.2 (fun a ha e => by rw [klt_asym (hgt a ha)] at e; cases e)]
          rfl
      · have hxp : klt x p.1 = true := by
          rcases klt_total he with e | e
          · exact absurd e hlt
          · exact e
        have hgt : ∀ a ∈ p :: L, klt x a.1 = true := fun a ha => by
          rcases List.mem_cons.1 ha with rfl | ha
          · exact hxp
          · exact klt_trans hxp (h1 a ha)
        rw [decide_eq_false he]
        have hne : ∀ a ∈ p :: L, a.1 ≠ x := fun a ha e => by have := hgt a ha; rw [e, klt_irr] at this; cases this
        refine ⟨fun h => (by cases h), ?_, delL_id hne, getL_none hne, ?_⟩
        · conv => lhs; unfold insL
          rw [if_pos hxp]
          rfl
        · show (List.filter _ (p :: L)).length = 0
          rw [List.filter_eq_nil_iff.2 (fun a ha e => by rw [klt_asym (hgt a ha)] at e; cases e)]
          rfl
def valsL (L : LN) : List Int := L.map Prod.snd
theorem keysL_ins (L : LN) (k : Nat) (x : ByteArray) (v : Int) : keysL (L.take k ++ (x, v) :: L.drop k) = (keysL L).take k ++ x :: (keysL L).drop k := by unfold keysL; simp [List.map_take, List.map_drop]
theorem valsL_ins (L : LN) (k : Nat) (x : ByteArray) (v : Int) : valsL (L.take k ++ (x, v) :: L.drop k) = (valsL L).take k ++ v :: (valsL L).drop k := by unfold valsL; simp [List.map_take, List.map_drop]
theorem erase_cut {α : Type} : ∀ (l : List α) (k : Nat), l.eraseIdx k = l.take k ++ l.drop (k + 1)
  | [], k => by simp
  | a :: l, 0 => rfl
  | a :: l, k + 1 => by
    show a :: l.eraseIdx k = a :: (l.take k ++ l.drop (k + 1))
    rw [erase_cut l k]
theorem keysL_del (L : LN) (k : Nat) : keysL (L.eraseIdx k) = (keysL L).take k ++ (keysL L).drop (k + 1) := by rw [erase_cut]; unfold keysL; simp [List.map_take, List.map_drop]
theorem valsL_del (L : LN) (k : Nat) : valsL (L.eraseIdx k) = (valsL L).take k ++ (valsL L).drop (k + 1) := by rw [erase_cut]; unfold valsL; simp [List.map_take, List.map_drop]
/-- Since w only what is new has been written. -/
def Fr (w W : World) : Prop := Below w.heap.size w W
section
variable {w W W' : World}
theorem Fr.refl (w : World) : Fr w w := Below.refl _ _
theorem Fr.le (h : Fr w W) : w.heap.size ≤ W.heap.size := Below.size h
theorem Fr.alloc (h : Fr w W) (o : Obj) : Fr w (W.alloc o) := Below.alloc h (Below.size h) o
theorem Fr.drew (h : Fr w W) : Fr w W.drew := Below.drew h
theorem Fr.grown (h : Fr w W) {row : Option Nat} (hg : W.grownBy W' row) (hr : ∀ j, row = some j → w.heap.size ≤ j) : Fr w W' := Below.grown h hg (Below.size h) hr
theorem Fr.bel (h : Fr w W) : Below w.heap.size w W := h
theorem row_alloc {B : Nat} {e : TypeId} {k n : Nat} {v : Value} {xs : List Value} (h : W.ownsRow B e k v n xs) (o : Obj) : (W.alloc o).ownsRow B e k v n xs := h.alloc o
theorem row_keep {B : Nat} {e : TypeId} {k n : Nat} {v : Value} {xs : List Value} (h : W.ownsRow B e k v n xs) (hb : ∀ j, v.ownBlock = some j → W'.heap[j]? = W.heap[j]?) : W'.ownsRow B e k v n xs := by
  obtain ⟨h0, h3 | ⟨b, cap, cur, rfl, e2, e3, e4⟩⟩ := h
  · exact ⟨h0, .inl h3⟩
  · exact ⟨h0, .inr ⟨b, cap, cur, rfl, e2, (hb b rfl).trans e3, e4⟩⟩
theorem row_drew {B : Nat} {e : TypeId} {k n : Nat} {v : Value} {xs : List Value} (h : W.ownsRow B e k v n xs) : W.drew.ownsRow B e k v n xs := row_keep h (fun _ _ => rfl)
theorem row_below {B : Nat} {e : TypeId} {k n : Nat} {v : Value} {xs : List Value} (h : W.ownsRow B e k v n xs) (hb : Below W.heap.size W W') : W'.ownsRow B e k v n xs := row_keep h (fun j hj => hb.block j (h.lt j hj).2)
theorem row_lit {B : Nat} (e : TypeId) (hB : B ≤ W.heap.size) {g : Nat} (hg : g = W.heap.size) : (W.alloc (.cells #[] e)).ownsRow B e 1 (.slice (some ⟨g, 0, none⟩) 0 0) 0 [] := hg ▸ World.ownsRow_lit W #[] 0 hB (by decide) rfl
theorem row_down {X B : Nat} {e : TypeId} {v : Value} {k n : Nat} {xs : List Value} (hB : B ≤ X) (h : W.ownsRow X e n v k xs) : W.ownsRow B e n v k xs := by
  obtain ⟨h0, h3 | ⟨b, cap, cur, e1, e2, e3⟩⟩ := h
  · exact ⟨h0, .inl h3⟩
  · exact ⟨h0, .inr ⟨b, cap, cur, e1, Nat.le_trans hB e2, e3⟩⟩
theorem Blk.newEq {g : Nat} (w : World) {t : TypeId} {cs : Array Value} (e : g = w.heap.size) : Blk (w.alloc (.cells cs t)) g t cs := e ▸ Blk.new w t cs
theorem blk_past {g : Nat} {t : TypeId} {cs : Array Value} (h : Blk W g t cs) {row : Option Nat} (hg : W.grownBy W' row) (hne : row ≠ some g) : Blk W' g t cs := h.grown hg (fun e => hne e.symm)
end
/-- A row of one-cell elements, seen as a slice. -/
def Sv (w : World) (A : Option Addr) (cap g : Nat) (vs : List Value) : Prop := vs.length ≤ cap ∧ ∀ j u, vs[j]? = some u → A = some ⟨g, 0, none⟩ ∧ g < w.heap.size ∧ w.cell? ⟨g, j, none⟩ = some u
theorem sv_row {w : World} {B : Nat} {e : TypeId} {V : Value} {vs : List Value} (h : w.ownsRow B e 1 V vs.length vs) : ∃ A cap g, V = .slice A vs.length cap ∧ Sv w A cap g vs := by
  obtain ⟨h1, ⟨rfl, h2⟩ | ⟨g, cap, cur, rfl, hg, hh, hc, hm, hcs, ht⟩⟩ := h
  · have : vs = [] := List.length_eq_zero_iff.1 h2
    subst this
    exact ⟨none, 0, 0, rfl, Nat.le_refl _, fun j u hj => by simp at hj⟩
  · refine ⟨some ⟨g, 0, none⟩, cap, g, rfl, hc, fun j u hj => ⟨rfl, Blk.lt hh, ?_⟩⟩
    have hjl := (List.getElem?_eq_some_iff.1 hj).1
    rw [cell_of_row w g _ cur _ (0, 0) hh, ← hj, ← ht, List.getElem?_take, if_pos (by omega), Array.getElem?_toList]
def cutA (A : Option Addr) (cap k : Nat) : Option Addr := if cap = k then A else A.map fun p => p.add k
section
variable {w W : World} {A : Option Addr} {cap g : Nat} {vs : List Value}
theorem Sv.take_at (h : Sv w A cap g vs) (hF : Fr w W) {k : Nat} (hk : k ≤ vs.length) : 0 < k → ∃ ad, A = some ad ∧ ∀ j u, (vs.take k)[j]? = some u → W.cell? (ad.add j) = some u := fun hp => by
  obtain ⟨rfl, _, _⟩ := h.2 0 _ (List.getElem?_eq_getElem (by omega))
  refine ⟨_, rfl, fun j u hj => ?_⟩
  have hjl := (List.getElem?_eq_some_iff.1 hj).1
  rw [List.length_take] at hjl
  rw [List.getElem?_take, if_pos (by omega)] at hj
  obtain ⟨_, h2, h3⟩ := h.2 j u hj
  rw [add_plain, Nat.zero_add, hF.bel.cell (p := ⟨g, j, none⟩) h2]
  exact h3
theorem Sv.drop_at (h : Sv w A cap g vs) (hF : Fr w W) {k : Nat} (hk : k ≤ vs.length) : 0 < vs.length - k → ∃ ad, cutA A cap k = some ad ∧ ∀ j u, (vs.drop k)[j]? = some u → W.cell? (ad.add j) = some u := fun hp => by
  obtain ⟨rfl, _, _⟩ := h.2 0 _ (List.getElem?_eq_getElem (by omega))
  have hc := h.1
  refine ⟨⟨g, k, none⟩, ?_, fun j u hj => ?_⟩
  · unfold cutA
    rw [if_neg (by omega)]
    simp only [Option.map_some]
    rw [add_plain, Nat.zero_add]
  · rw [List.getElem?_drop] at hj
    obtain ⟨_, h2, h3⟩ := h.2 (k + j) u hj
    rw [add_plain, hF.bel.cell (p := ⟨g, k + j, none⟩) h2]
    exact h3
end
section
variable {P : Program} {w : World}
theorem run_append_nought (base : Nat) (t ty e : TypeId) (i : TypeInfo) (size : Nat) (ht : P.underlying t = some (.slice e)) (hi : P.info? e = some i)
    (v : Value) (n : Nat) (xs : List Value) (hown : w.ownsRow base e size v n xs) (A : Option Addr) (c : Nat) :
    (Builtin.append_ #[t, t] ty #[v, .slice A 0 c]).run P w = .ok v w := by
  have hlc : ∀ a : Addr, (loadCells a 0).run P w = .ok #[] w := fun a => by simp [loadCells, loadCellsFrom]
  rcases hown.2 with ⟨rfl, rfl⟩ | ⟨g, cap, cur, rfl, _, _, hnc, _⟩
  · cases A <;> simp [Builtin.append_, run_underlying ht, sizeOf, typeInfo, hi, Builtin.lenOf, Builtin.firstCells, hlc, Result.andThen]
  · cases A <;> simp [Builtin.append_, run_underlying ht, sizeOf, typeInfo, hi, Builtin.lenOf, Builtin.firstCells, hlc, hnc, storeCells, Result.andThen]
end
theorem step_append_any {P : Program} (w : World) {ops : Array Oper} {o : Oper} {a : Act} {K : Act → World → Prop} {Q : Exit → Act → World → Prop} {E : Prop} (hgd : o.guard = none) (s x : Operand) (t : TypeId)
    (ho : o.op = .call { callee := .builtin .append, args := #[s, x], argTypes := #[t, t] })
    (base : Nat) (e : TypeId) (i : TypeInfo) (z : Value) (size bytes : Nat) (ht : P.underlying t = some (.slice e)) (hi : P.info? e = some i) (hz : i.zero = some z)
    (hsize : i.size = size) (hby : i.bytes = bytes) (hzs : z.cells.size = size) (hsz : 0 < size)
    (v : Value) (n : Nat) (xs : List Value) (hs : a.eval s = v) (hown : w.ownsRow base e size v n xs)
    (A : Option Addr) (m c : Nat) (news : List Value) (hx : a.eval x = .slice A m c) (hl : news.length = m * size) (hA : 0 < m → ∃ ad, A = some ad ∧ ∀ j u, news[j]? = some u → w.cell? (ad.add j) = some u) (h1 : ∀ u ∈ news, u.oneCell' = true)
    (h63 : n + m ≤ maxLen) (hbytes : (n + m) * bytes ≤ 140737488355328) (hbase : base ≤ w.heap.size)
    (h : ∀ v' w', w'.ownsRow base e size v' (n + m) (xs ++ news) → w.grownBy w' v.ownBlock → (∀ k, v'.ownBlock = some k → v.ownBlock = some k ∨ w.heap.size ≤ k) → K (a.put o.dst v') w') :
    if Region.wanted o (yielded ops a.tmps) = true then Oper.wp P o a w K Q else E := by
  rcases Nat.eq_zero_or_pos m with h0 | h0
  · subst h0
    have hnil : news = [] := List.length_eq_zero_iff.1 (by rw [hl]; omega)
    subst hnil
    have hw : Region.wanted o (yielded ops a.tmps) = true := by simp [Region.wanted, hgd]
    rw [if_pos hw]
    have hrun := run_append_nought (P := P) (w := w) base t o.type e i size ht hi v n xs hown A c
    unfold Oper.wp
    simp [execOp, ho, resolve, invoke, builtin, hs, hx, hrun, Result.andThen]
    exact h v w (by simpa using hown) (World.grownBy.refl w _) (fun k hk => .inl hk)
  · obtain ⟨ad, rfl, hc⟩ := hA h0
    refine step_append_lies w hgd s x t ho base e i z size bytes ht hi hz hsize hby hzs hsz v n xs hs hown ad m c news hx hl hc h1 h0 h63 hbytes hbase _ rfl ?_
    intro g cap w' h2 h3 h4 h5
    exact h _ w' h2 h3 (fun k hk => by
      cases hk
      rcases h4 with h4 | h4
      · exact .inl h4
      · exact .inr (by show _ ≤ g; omega))
/-- An append onto a new row: only what is new is written. -/
theorem step_fr_append {P : Program} {w0 : World} (w : World) {ops : Array Oper} {o : Oper} {a : Act} {K : Act → World → Prop} {Q : Exit → Act → World → Prop} {E : Prop} (hgd : o.guard = none) (s x : Operand) (t : TypeId)
    (ho : o.op = .call { callee := .builtin .append, args := #[s, x], argTypes := #[t, t] })
    (e : TypeId) (i : TypeInfo) (z : Value) (bytes : Nat) (ht : P.underlying t = some (.slice e)) (hi : P.info? e = some i) (hz : i.zero = some z)
    (hsize : i.size = 1) (hby : i.bytes = bytes) (hzs : z.cells.size = 1)
    (v : Value) (n : Nat) (xs : List Value) (hs : a.eval s = v) (hF : Fr w0 w) (hown : w.ownsRow w0.heap.size e 1 v n xs)
    (A : Option Addr) (m c : Nat) (news : List Value) (hx : a.eval x = .slice A m c) (hl : news.length = m) (hA : 0 < m → ∃ ad, A = some ad ∧ ∀ j u, news[j]? = some u → w.cell? (ad.add j) = some u) (h1 : ∀ u ∈ news, u.oneCell' = true)
    (h63 : n + m ≤ 1000) (hb : bytes ≤ 16)
    (h : ∀ v' w', w'.ownsRow w0.heap.size e 1 v' (n + m) (xs ++ news) → Fr w0 w' → (∀ b t cs, Blk w b t cs → v.ownBlock ≠ some b → Blk w' b t cs) → K (a.put o.dst v') w') :
    if Region.wanted o (yielded ops a.tmps) = true then Oper.wp P o a w K Q else E := by
  refine step_append_any w hgd s x t ho w0.heap.size e i z 1 bytes ht hi hz hsize hby hzs (by decide) v n xs hs hown A m c news hx (by omega) hA h1 (by unfold maxLen; omega) ?_ hF.le ?_
  · have : (n + m) * bytes ≤ 1000 * 16 := Nat.mul_le_mul h63 hb
    omega
  · intro v' w' h2 h3 h4
    exact h v' w' h2 (hF.grown h3 (fun j e => (hown.lt j e).1)) (fun b t cs hb hne => hb.grown h3 (fun e => hne e.symm))
theorem row_ty {w w' : World} {base : Nat} {e : TypeId} {k n : Nat} {v : Value} {xs : List Value} (h : w.ownsRow base e k v n xs) (hk : ∀ j cur, v.ownBlock = some j → Blk w j e cur → w'.heap[j]? = w.heap[j]?) : w'.ownsRow base e k v n xs := by
  obtain ⟨h0, h3 | ⟨b, cap, cur, rfl, e2, e3, e4⟩⟩ := h
  · exact ⟨h0, .inl h3⟩
  · exact ⟨h0, .inr ⟨b, cap, cur, rfl, e2, (hk b cur rfl e3).trans e3, e4⟩⟩
theorem sv_of {w : World} {B : Nat} {e : TypeId} {A : Option Addr} {n cap : Nat} {vs : List Value} (h : w.ownsRow B e 1 (.slice A n cap) n vs) (hl : vs.length = n) : ∃ g, Sv w A cap g vs := by
  subst hl
  obtain ⟨A', cap', g, e', h2⟩ := sv_row h
  injection e' with e1 e2 e3
  subst e1 e3
  exact ⟨g, h2⟩
theorem sl_of {w : World} {A : Option Addr} {cap g : Nat} {l : List ByteArray} (h : Sv w A cap g (svs l)) : Sl w A cap g l :=
  ⟨by have := h.1; unfold svs at this; simpa using this, fun j x hj => h.2 j (.string x) (by unfold svs; rw [List.getElem?_map, hj]; rfl)⟩
def ivs (l : List Int) : List Value := l.map (Value.int .i64)
theorem svs_one (l : List ByteArray) : ∀ u ∈ svs l, u.oneCell' = true := by
  intro u hu
  obtain ⟨x, _, rfl⟩ := List.mem_map.1 hu
  rfl
theorem ivs_one (l : List Int) : ∀ u ∈ ivs l, u.oneCell' = true := by
  intro u hu
  obtain ⟨x, _, rfl⟩ := List.mem_map.1 hu
  rfl
theorem ivs_len (l : List Int) : (ivs l).length = l.length := by unfold ivs; rw [List.length_map]
theorem keysL_len' (L : LN) : (svs (keysL L)).length = L.length := by rw [svs_len, keysL_len]
theorem valsL_len' (L : LN) : (ivs (valsL L)).length = L.length := by rw [ivs_len]; unfold valsL; rw [List.length_map]
theorem row2_set {w : World} {B g n cap : Nat} {vs : List Value} (h : w.ownsRow B 3 1 (.slice (some ⟨g, 0, none⟩) n cap) n vs) (j : Nat) (u : Value) : (w.setCell ⟨g, j, none⟩ u).ownsRow B 3 1 (.slice (some ⟨g, 0, none⟩) n cap) n (vs.set j u) := by
  obtain ⟨h0, ⟨h3, _⟩ | ⟨b, c, cur, e1, e2, e3, e4, e5, e6, e7⟩⟩ := h
  · cases h3
  · injection e1 with e1a _ e1c
    injection e1a with e1b
    injection e1b with e1d
    subst e1d e1c
    refine ⟨by rw [List.length_set]; exact h0, .inr ⟨g, cap, cur.setIfInBounds j u, rfl, e2, ?_, e4, e5, by simpa using e6, ?_⟩⟩
    · simp [World.setCell, Array.getElem?_modify, e3]
    · rw [Array.toList_setIfInBounds, ← e7]
      simp [List.take_set]
theorem cutk_to (A : Option Addr) (n cap k : Nat) (hk : k ≤ cap) (W : World) : (Instr.sliceAt 37 (.slice A n cap) none (some (.int .i64 (k : Int))) none).run Try.prog W = .ok (.slice A k cap) W := by
  rw [run_sliceAt_slice W 37 _ _ _ _ (by exact Try.underlying37), run_slice_h W 37 _ _ _ (by exact Try.underlying37) _ _ (by omega) (by omega)]
  have e : Try.prog.elem 37 = 9 := by kernel_rfl
  have e2 : (sizeOf 9).run Try.prog W = .ok 1 W := by kernel_rfl
  rw [e, e2]
  simp only [Result.andThen, sliced, Int.toNat_natCast, Nat.zero_mul, Nat.sub_zero]
  congr 2
  by_cases h : cap = 0
  · rw [if_pos h]
  · rw [if_neg h]
    cases A <;> rfl
theorem cutk_from (A : Option Addr) (n cap k : Nat) (z : Int) (hz : z = (k : Int)) (hk : k ≤ n) (W : World) : (Instr.sliceAt 37 (.slice A n cap) (some (.int .i64 z)) none none).run Try.prog W = .ok (.slice (cutA A cap k) (n - k) (cap - k)) W := by
  subst hz
  rw [run_sliceAt_slice W 37 _ _ _ _ (by exact Try.underlying37), run_slice_l W 37 _ _ _ (by exact Try.underlying37) _ _ (by omega) (by omega)]
  have e : Try.prog.elem 37 = 9 := by kernel_rfl
  have e2 : (sizeOf 9).run Try.prog W = .ok 1 W := by kernel_rfl
  rw [e, e2]
  simp only [Result.andThen, sliced, Int.toNat_natCast, Nat.mul_one, cutA]
theorem cutv_to (A : Option Addr) (n cap k : Nat) (hk : k ≤ cap) (W : World) : (Instr.sliceAt 46 (.slice A n cap) none (some (.int .i64 (k : Int))) none).run Try.prog W = .ok (.slice A k cap) W := by
  rw [run_sliceAt_slice W 46 _ _ _ _ (by exact Try.underlying46), run_slice_h W 46 _ _ _ (by exact Try.underlying46) _ _ (by omega) (by omega)]
  have e : Try.prog.elem 46 = 3 := by kernel_rfl
  have e2 : (sizeOf 3).run Try.prog W = .ok 1 W := by kernel_rfl
  rw [e, e2]
  simp only [Result.andThen, sliced, Int.toNat_natCast, Nat.zero_mul, Nat.sub_zero]
  congr 2
  by_cases h : cap = 0
  · rw [if_pos h]
  · rw [if_neg h]
    cases A <;> rfl
theorem cutv_from (A : Option Addr) (n cap k : Nat) (z : Int) (hz : z = (k : Int)) (hk : k ≤ n) (W : World) : (Instr.sliceAt 46 (.slice A n cap) (some (.int .i64 z)) none none).run Try.prog W = .ok (.slice (cutA A cap k) (n - k) (cap - k)) W := by
  subst hz
  rw [run_sliceAt_slice W 46 _ _ _ _ (by exact Try.underlying46), run_slice_l W 46 _ _ _ (by exact Try.underlying46) _ _ (by omega) (by omega)]
  have e : Try.prog.elem 46 = 3 := by kernel_rfl
  have e2 : (sizeOf 3).run Try.prog W = .ok 1 W := by kernel_rfl
  rw [e, e2]
  simp only [Result.andThen, sliced, Int.toNat_natCast, Nat.mul_one, cutA]
end Go.Proofs.Ytlfjhbfhnlclpaa
