/- Rows that are made anew: cut, put together, appended to. -/
import Derived.Test.YtmapfbnfcbkjpaaLf
import Derived.Deep.AppendLies
import Derived.Deep.RegionLaw
namespace Go.Proofs.Ytmapfbnfcbkjpaa
open Go.RowKit
open Go.Lib
open Go.ChangeShapes Go.ChangeAt
set_option linter.unusedVariables false
set_option linter.unusedSimpArgs false
set_option maxRecDepth 100000
/-- Since w only what is new has been written. -/
def Fr (w W : World) : Prop := Below w.heap.size w W
section
variable {w W W' : World}
theorem Fr.refl (w : World) : Fr w w := Below.refl _ _
theorem Fr.le (h : Fr w W) : w.heap.size ≤ W.heap.size := Below.size h
theorem Fr.alloc (h : Fr w W) (o : Obj) : Fr w (W.alloc o) := Below.alloc h (Below.size h) o
theorem Fr.drew (h : Fr w W) : Fr w W.drew := Below.drew h
theorem Fr.grown (h : Fr w W) {row : Option Nat} (hg : W.grownBy W' row) (hr : ∀ j, row = some j → w.heap.size ≤ j) : Fr w W' := Below.grown h hg (Below.size h) hr
theorem Fr.bel (h : Fr w W) : Below w.heap.size w W := h
theorem row_alloc {B : Nat} {e : TypeId} {k n : Nat} {v : Value} {xs : List Value} (h : W.ownsRow B e k v n xs) (o : Obj) : (W.alloc o).ownsRow B e k v n xs := h.alloc o
theorem row_keep {B : Nat} {e : TypeId} {k n : Nat} {v : Value} {xs : List Value} (h : W.ownsRow B e k v n xs) (hb : ∀ j, v.ownBlock = some j → W'.heap[j]? = W.heap[j]?) : W'.ownsRow B e k v n xs := by
  obtain ⟨h0, h3 | ⟨b, cap, cur, rfl, e2, e3, e4⟩⟩ := h
  · exact ⟨h0, .inl h3⟩
  · exact ⟨h0, .inr ⟨b, cap, cur, rfl, e2, (hb b rfl).trans e3, e4⟩⟩
theorem row_drew {B : Nat} {e : TypeId} {k n : Nat} {v : Value} {xs : List Value} (h : W.ownsRow B e k v n xs) : W.drew.ownsRow B e k v n xs := row_keep h (fun _ _ => rfl)
theorem row_below {B : Nat} {e : TypeId} {k n : Nat} {v : Value} {xs : List Value} (h : W.ownsRow B e k v n xs) (hb : Below W.heap.size W W') : W'.ownsRow B e k v n xs := row_keep h (fun j hj => hb.block j (h.lt j hj).2)
theorem row_lit {B : Nat} (e : TypeId) (hB : B ≤ W.heap.size) {g : Nat} (hg : g = W.heap.size) : (W.alloc (.cells #[] e)).ownsRow B e 1 (.slice (some ⟨g, 0, none⟩) 0 0) 0 [] := hg ▸ World.ownsRow_lit W #[] 0 hB (by decide) rfl
theorem row_down {X B : Nat} {e : TypeId} {v : Value} {k n : Nat} {xs : List Value} (hB : B ≤ X) (h : W.ownsRow X e n v k xs) : W.ownsRow B e n v k xs := by
  obtain ⟨h0, h3 | ⟨b, cap, cur, e1, e2, e3⟩⟩ := h
  · exact ⟨h0, .inl h3⟩
  · exact ⟨h0, .inr ⟨b, cap, cur, e1, Nat.le_trans hB e2, e3⟩⟩
theorem Blk.newEq {g : Nat} (w : World) {t : TypeId} {cs : Array Value} (e : g = w.heap.size) : Blk (w.alloc (.cells cs t)) g t cs := e ▸ Blk.new w t cs
theorem blk_past {g : Nat} {t : TypeId} {cs : Array Value} (h : Blk W g t cs) {row : Option Nat} (hg : W.grownBy W' row) (hne : row ≠ some g) : Blk W' g t cs := h.grown hg (fun e => hne e.symm)
end
/-- A row of one-cell elements, seen as a slice. -/
def Sv (w : World) (A : Option Addr) (cap g : Nat) (vs : List Value) : Prop := vs.length ≤ cap ∧ ∀ j u, vs[j]? = some u → A = some ⟨g, 0, none⟩ ∧ g < w.heap.size ∧ w.cell? ⟨g, j, none⟩ = some u
theorem sv_row {w : World} {B : Nat} {e : TypeId} {V : Value} {vs : List Value} (h : w.ownsRow B e 1 V vs.length vs) : ∃ A cap g, V = .slice A vs.length cap ∧ Sv w A cap g vs := by
  obtain ⟨h1, ⟨rfl, h2⟩ | ⟨g, cap, cur, rfl, hg, hh, hc, hm, hcs, ht⟩⟩ := h
  · have : vs = [] := List.length_eq_zero_iff.1 h2
    subst this
    exact ⟨none, 0, 0, rfl, Nat.le_refl _, fun j u hj => by simp at hj⟩
  · refine ⟨some ⟨g, 0, none⟩, cap, g, rfl, hc, fun j u hj => ⟨rfl, Blk.lt hh, ?_⟩⟩
    have hjl := (List.getElem?_eq_some_iff.1 hj).1
    rw [cell_of_row w g _ cur _ (0, 0) hh, ← hj, ← ht, List.getElem?_take, if_pos (by omega), Array.getElem?_toList]
def cutA (A : Option Addr) (cap k : Nat) : Option Addr := if cap = k then A else A.map fun p => p.add k
section
variable {w W : World} {A : Option Addr} {cap g : Nat} {vs : List Value}
theorem Sv.take_at (h : Sv w A cap g vs) (hF : Fr w W) {k : Nat} (hk : k ≤ vs.length) : 0 < k → ∃ ad, A = some ad ∧ ∀ j u, (vs.take k)[j]? = some u → W.cell? (ad.add j) = some u := fun hp => by
  obtain ⟨rfl, _, _⟩ := h.2 0 _ (List.getElem?_eq_getElem (by omega))
  refine ⟨_, rfl, fun j u hj => ?_⟩
  have hjl := (List.getElem?_eq_some_iff.1 hj).1
  rw [List.length_take] at hjl
  rw [List.getElem?_take, if_pos (by omega)] at hj
  obtain ⟨_, h2, h3⟩ := h.2 j u hj
  rw [add_plain, Nat.zero_add, hF.bel.cell (p := ⟨g, j, none⟩) h2]
  exact h3
theorem Sv.drop_at (h : Sv w A cap g vs) (hF : Fr w W) {k : Nat} (hk : k ≤ vs.length) : 0 < vs.length - k → ∃ ad, cutA A cap k = some ad ∧ ∀ j u, (vs.drop k)[j]? = some u → W.cell? (ad.add j) = some u := fun hp => by
  obtain ⟨rfl, _, _⟩ := h.2 0 _ (List.getElem?_eq_getElem (by omega))
  have hc := h.1
  refine ⟨⟨g, k, none⟩, ?_, fun j u hj => ?_⟩
  · unfold cutA
    rw [if_neg (by omega)]
    simp only [Option.map_some]
    rw [add_plain, Nat.zero_add]
  · rw [List.getElem?_drop] at hj
    obtain ⟨_, h2, h3⟩ := h.2 (k + j) u hj
    rw [add_plain, hF.bel.cell (p := ⟨g, k + j, none⟩) h2]
    exact h3
end
section
variable {P : Program} {w : World}
theorem run_append_nought (base : Nat) (t ty e : TypeId) (i : TypeInfo) (size : Nat) (ht : P.underlying t = some (.slice e)) (hi : P.info? e = some i)
    (v : Value) (n : Nat) (xs : List Value) (hown : w.ownsRow base e size v n xs) (A : Option Addr) (c : Nat) :
    (Builtin.append_ #[t, t] ty #[v, .slice A 0 c]).run P w = .ok v w := by
  have hlc : ∀ a : Addr, (loadCells a 0).run P w = .ok #[] w := fun a => by simp [loadCells, loadCellsFrom]
  rcases hown.2 with ⟨rfl, rfl⟩ | ⟨g, cap, cur, rfl, _, _, hnc, _⟩
  · cases A <;> simp [Builtin.append_, run_underlying ht, sizeOf, typeInfo, hi, Builtin.lenOf, Builtin.firstCells, hlc, Result.andThen]
  · cases A <;> simp [Builtin.append_, run_underlying ht, sizeOf, typeInfo, hi, Builtin.lenOf, Builtin.firstCells, hlc, hnc, storeCells, Result.andThen]
end
theorem step_append_any {P : Program} (w : World) {ops : Array Oper} {o : Oper} {a : Act} {K : Act → World → Prop} {Q : Exit → Act → World → Prop} {E : Prop} (hgd : o.guard = none) (s x : Operand) (t : TypeId)
    (ho : o.op = .call { callee := .builtin .append, args := #[s, x], argTypes := #[t, t] })
    (base : Nat) (e : TypeId) (i : TypeInfo) (z : Value) (size bytes : Nat) (ht : P.underlying t = some (.slice e)) (hi : P.info? e = some i) (hz : i.zero = some z)
    (hsize : i.size = size) (hby : i.bytes = bytes) (hzs : z.cells.size = size) (hsz : 0 < size)
    (v : Value) (n : Nat) (xs : List Value) (hs : a.eval s = v) (hown : w.ownsRow base e size v n xs)
    (A : Option Addr) (m c : Nat) (news : List Value) (hx : a.eval x = .slice A m c) (hl : news.length = m * size) (hA : 0 < m → ∃ ad, A = some ad ∧ ∀ j u, news[j]? = some u → w.cell? (ad.add j) = some u) (h1 : ∀ u ∈ news, u.oneCell' = true)
    (h63 : n + m ≤ maxLen) (hbytes : (n + m) * bytes ≤ 140737488355328) (hbase : base ≤ w.heap.size)
    (h : ∀ v' w', w'.ownsRow base e size v' (n + m) (xs ++ news) → w.grownBy w' v.ownBlock → (∀ k, v'.ownBlock = some k → v.ownBlock = some k ∨ w.heap.size ≤ k) → K (a.put o.dst v') w') :
    if Region.wanted o (yielded ops a.tmps) = true then Oper.wp P o a w K Q else E := by
  rcases Nat.eq_zero_or_pos m with h0 | h0
  · subst h0
    have hnil : news = [] := List.length_eq_zero_iff.1 (by rw [hl]; omega)
    subst hnil
    have hw : Region.wanted o (yielded ops a.tmps) = true := by simp [Region.wanted, hgd]
    rw [if_pos hw]
    have hrun := run_append_nought (P := P) (w := w) base t o.type e i size ht hi v n xs hown A c
    unfold Oper.wp
    simp [execOp, ho, resolve, invoke, builtin, hs, hx, hrun, Result.andThen]
    exact h v w (by simpa using hown) (World.grownBy.refl w _) (fun k hk => .inl hk)
  · obtain ⟨ad, rfl, hc⟩ := hA h0
    refine step_append_lies w hgd s x t ho base e i z size bytes ht hi hz hsize hby hzs hsz v n xs hs hown ad m c news hx hl hc h1 h0 h63 hbytes hbase _ rfl ?_
    intro g cap w' h2 h3 h4 h5
    exact h _ w' h2 h3 (fun k hk => by
      cases hk
      rcases h4 with h4 | h4
      · exact .inl h4
      · exact .inr (by show _ ≤ g; omega))
end Go.Proofs.Ytmapfbnfcbkjpaa
