/- The library's Delete, at the lock's queue. -/
import Derived.Test.YtkhlimlcnlalgaaKf
import Derived.Deep.RegionLaw
namespace Go.Proofs.Ytkhlimlcnlalgaa
open Go.RowKit Go.Maps
set_option linter.unusedVariables false
set_option linter.unusedSimpArgs false
set_option maxRecDepth 100000
/-- Cells set in a row, one behind the other. -/
def sc : Array Value → Nat → List Value → Array Value
  | cur, _, [] => cur
  | cur, o, v :: vs => sc (cur.setIfInBounds o v) (o + 1) vs
theorem sc_size : ∀ (vs : List Value) (cur : Array Value) (o : Nat), (sc cur o vs).size = cur.size
  | [], _, _ => rfl
  | v :: vs, cur, o => by
    unfold sc
    rw [sc_size vs, Array.size_setIfInBounds]
theorem sc_get : ∀ (vs : List Value) (cur : Array Value) (o i : Nat), (sc cur o vs)[i]? = if o ≤ i ∧ i < o + vs.length ∧ i < cur.size then vs[i - o]? else cur[i]?
  | [], cur, o, i => by
    unfold sc
    rw [if_neg (by simp; omega)]
  | v :: vs, cur, o, i => by
    unfold sc
    rw [sc_get vs, Array.size_setIfInBounds, Array.getElem?_setIfInBounds]
    by_cases h1 : o = i
    · subst h1
      rw [if_neg (by omega), if_pos rfl]
      by_cases h2 : o < cur.size
      · rw [if_pos h2, if_pos ⟨Nat.le_refl _, by simp, h2⟩, Nat.sub_self]; rfl
      · rw [if_neg h2, if_neg (by omega), Array.getElem?_eq_none (by omega)]
    · rw [if_neg h1]
      by_cases h2 : o + 1 ≤ i ∧ i < o + 1 + vs.length ∧ i < cur.size
      · rw [if_pos h2, if_pos ⟨by omega, by simp; omega, h2.2.2⟩]
        rw [show i - o = (i - (o + 1)) + 1 by omega, List.getElem?_cons_succ]
      · rw [if_neg h2, if_neg (by simp; omega)]
theorem heap_sc : ∀ (vs : List Value) (w : World) (g o : Nat) (cur : Array Value) (t : TypeId) (fr : Nat × Nat), w.heap[g]? = some (.cells cur t fr) → (w.setCells g o vs).heap[g]? = some (.cells (sc cur o vs) t fr)
  | [], _, _, _, _, _, _, h => h
  | v :: vs, w, g, o, cur, t, fr, h => by
    show (World.setCells (w.setCell ⟨g, o, none⟩ v) g (o + 1) vs).heap[g]? = _
    refine heap_sc vs _ g (o + 1) _ t fr ?_
    simp [World.setCell, Array.getElem?_modify, h]
theorem size_sc : ∀ (vs : List Value) (w : World) (g o : Nat), (w.setCells g o vs).heap.size = w.heap.size
  | [], _, _, _ => rfl
  | v :: vs, w, g, o => by
    show (World.setCells (w.setCell ⟨g, o, none⟩ v) g (o + 1) vs).heap.size = _
    rw [size_sc vs]
    simp [World.setCell]
theorem oth_sc : ∀ (vs : List Value) (w : World) (g o : Nat), (w.setCells g o vs).os = w.os ∧ (w.setCells g o vs).tape = w.tape ∧ (w.setCells g o vs).output = w.output
  | [], _, _, _ => ⟨rfl, rfl, rfl⟩
  | v :: vs, w, g, o => by
    show (World.setCells (w.setCell ⟨g, o, none⟩ v) g (o + 1) vs).os = _ ∧ _
    exact oth_sc vs (w.setCell ⟨g, o, none⟩ v) g (o + 1)
theorem run_append_nought {P : Program} {w : World} (t ty e : TypeId) (i : TypeInfo) (ht : P.underlying t = some (.slice e)) (hi : P.info? e = some i) (g off n cap : Nat) (hnc : n ≤ cap) (A : Option Addr) (c : Nat) :
    (Builtin.append_ #[t, t] ty #[.slice (some ⟨g, off, none⟩) n cap, .slice A 0 c]).run P w = .ok (.slice (some ⟨g, off, none⟩) n cap) w := by
  have hlc : ∀ a : Addr, (loadCells a 0).run P w = .ok #[] w := fun a => by simp [loadCells, loadCellsFrom]
  cases A <;> simp [Builtin.append_, run_underlying ht, sizeOf, typeInfo, hi, Builtin.lenOf, Builtin.firstCells, hlc, hnc, storeCells, Result.andThen]
/-- Where the tail behind place k lies. -/
def tailB (g off cap k : Nat) : Option Addr := if cap = k + 1 then some ⟨g, off, none⟩ else some ⟨g, off + (k + 1) * 2, none⟩
theorem step_tail {w : World} {ops : Array Oper} {o : Oper} {a : Act} {K : Act → World → Prop} {E : Exit → Act → World → Prop} {F : Prop} (hgd : o.guard = none) (s x : Operand)
    (ho : o.op = .call { callee := .builtin .append, args := #[s, x], argTypes := #[42, 42] }) {g off cap k : Nat} {cur : Array Value} {Q : List Pq} (hh : w.heap[g]? = some (.cells cur 46 (0, 0))) (hk : k < Q.length) (hc : Q.length ≤ cap) (hs : off + cap * 2 ≤ cur.size)
    (hq : ∀ j p, Q[j]? = some p → cur[off + j * 2]? = some (.int .i64 p.1) ∧ cur[off + j * 2 + 1]? = some (.int .i64 p.2)) (h1 : a.eval s = .slice (some ⟨g, off, none⟩) k cap) (h2 : a.eval x = .slice (tailB g off cap k) (Q.length - (k + 1)) (cap - (k + 1)))
    {i : TypeInfo} (hi : Try.prog.info? 46 = some i) (hs2 : i.size = 2)
    (hK : K (a.put o.dst (.slice (some ⟨g, off, none⟩) (Q.length - 1) cap)) (w.setCells g (off + k * 2) (qcells (Q.drop (k + 1))))) : if Region.wanted o (yielded ops a.tmps) = true then Oper.wp Try.prog o a w K E else F := by
  have hw : Region.wanted o (yielded ops a.tmps) = true := by simp [Region.wanted, hgd]
  rw [if_pos hw]
  have hrun : (Builtin.append_ #[42, 42] o.type #[.slice (some ⟨g, off, none⟩) k cap, .slice (tailB g off cap k) (Q.length - (k + 1)) (cap - (k + 1))]).run Try.prog w = .ok (.slice (some ⟨g, off, none⟩) (Q.length - 1) cap) (w.setCells g (off + k * 2) (qcells (Q.drop (k + 1)))) := by
    by_cases h0 : Q.length = k + 1
    · have e : Q.drop (k + 1) = [] := by rw [← h0, List.drop_length]
      rw [e, h0, Nat.sub_self, show k + 1 - 1 = k by omega]
      exact run_append_nought 42 o.type 46 i Try.underlying42 hi g off k cap (by omega) _ _
    · have ht : tailB g off cap k = some ⟨g, off + (k + 1) * 2, none⟩ := by unfold tailB; rw [if_neg (by omega)]
      rw [ht]
      have := run_append_room_cells (P := Try.prog) w 42 o.type 46 i Try.underlying42 hi g off k cap ⟨g, off + (k + 1) * 2, none⟩ (Q.length - (k + 1)) (cap - (k + 1)) (qcells (Q.drop (k + 1))) (by rw [hs2, qcells_len, List.length_drop]) (fun j u hj => by
        obtain ⟨r, p, hr, h⟩ := qcells_inv hj
        rw [List.getElem?_drop] at hr
        obtain ⟨e1, e2⟩ := hq _ p hr
        rw [add_plain, cell_of_row w g _ cur 46 (0, 0) hh]
        rcases h with ⟨rfl, rfl⟩ | ⟨rfl, rfl⟩
        · rw [← e1]; congr 1; omega
        · rw [← e2]; congr 1; omega) (qcells_one _) (by omega) (fun j hj => by
        rw [qcells_len, List.length_drop] at hj
        rw [hs2, cell_of_row w g _ cur 46 (0, 0) hh, Array.getElem?_eq_getElem (by omega)]
        rfl) (fun j hj => by simp [World.frozen?, hh])
      rw [hs2, show k + (Q.length - (k + 1)) = Q.length - 1 by omega] at this
      exact this
  unfold Oper.wp
  simp [execOp, ho, resolve, invoke, builtin, h1, h2, hrun, Result.andThen]
  exact hK
theorem run_clear_two {w : World} (ty : TypeId) {g o c : Nat} {cur : Array Value} (hh : w.heap[g]? = some (.cells cur 46 (0, 0))) (hs : o + 2 ≤ cur.size) :
    (Builtin.clear_ #[42] ty #[.slice (some ⟨g, o, none⟩) 1 c]).run Try.prog w = .ok (.tuple #[]) (w.setCells g o [.int .i64 0, .int .i64 0]) := by
  have hz : (zeroValue 46).run Try.prog w = .ok (.agg #[.int .i64 0, .int .i64 0]) w := by kernel_rfl
  have hzc : (Builtin.zeroCells (Value.agg #[.int .i64 0, .int .i64 0]).cells 1).toList = [.int .i64 0, .int .i64 0] := by kernel_rfl
  have hst := run_storeCells_cells (P := Try.prog) g o [.int .i64 0, .int .i64 0] 0 w (fun j hj => by
    have hj : j < 2 := hj
    rw [Nat.add_zero, cell_of_row w g _ cur 46 (0, 0) hh, Array.getElem?_eq_getElem (by omega)]
    rfl) (fun j hj => by simp [World.frozen?, hh]) (by intro u hu; simp at hu; subst hu; rfl)
  simp only [Nat.add_zero] at hst
  simp [Builtin.clear_, run_underlying Try.underlying42, hz, hzc, hst]
end Go.Proofs.Ytkhlimlcnlalgaa
