/- The law's own rows of ints: a slice, cut ahead. -/
import Derived.Test.YtkhlimlcnlalgaaKm
namespace Go.Proofs.Ytkhlimlcnlalgaa
open Go.RowKit Go.Maps
open Go.ChangeShapes Go.ChangeAt
set_option linter.unusedVariables false
set_option linter.unusedSimpArgs false
set_option maxRecDepth 100000
/-- The slice V holds these numbers: at whatever place of its block. -/
def Ir (w : World) (B : Nat) (V : Value) (l : List Int) : Prop :=
  (V = .slice none 0 0 ∧ l = []) ∨ ∃ (g off cap : Nat) (cur : Array Value), V = .slice (some ⟨g, off, none⟩) l.length cap ∧ B ≤ g ∧ w.heap[g]? = some (.cells cur 3 (0, 0)) ∧ l.length ≤ cap ∧ cap ≤ maxLen ∧ off + cap ≤ cur.size ∧
    ∀ j x, l[j]? = some x → cur[off + j]? = some (.int .i64 x)
/-- Numbers that lie in memory, at whatever place. -/
structure No (w : World) (A : Option Addr) (cap g off : Nat) (ys : List Int) : Prop where
  le : ys.length ≤ cap
  cell : ∀ (j : Nat) (x : Int), ys[j]? = some x → A = some ⟨g, off, none⟩ ∧ g < w.heap.size ∧ w.cell? ⟨g, off + j, none⟩ = some (.int .i64 x)
theorem No.below {w w' : World} {A : Option Addr} {cap g off : Nat} {ys : List Int} (h : No w A cap g off ys) (hb : Below w.heap.size w w') : No w' A cap g off ys :=
  ⟨h.le, fun j x hj => by
    obtain ⟨h1, h2, h3⟩ := h.cell j x hj
    exact ⟨h1, Nat.lt_of_lt_of_le h2 hb.size, (World.cell?_of_block (a := ⟨g, off + j, none⟩) (hb.block g h2)).trans h3⟩⟩
set_option maxHeartbeats 4000000 in
theorem ints_off {w : World} {A B : Option Addr} {capA capB ga gb off : Nat} {ys : List Int} (h : Nl w A capA ga ys) (k : No w B capB gb off ys) (hn : ys.length ≤ 1000000) : Calls Try.prog 11 #[.slice A ys.length capA, .slice B ys.length capB] w fun r w' => r = .returned (.bool true) ∧ Below w.heap.size w w' := by
  have HA := Lib.hid h
  have HB := Lib.hid k
  have hla := h.le
  have hlb := k.le
  have hnI : (ys.length : Int) ≤ 1000000 := by omega
  have H0 := Lib.hid (Below.refl w.heap.size w)
  clear h k
  go_enter Try.func11, Try.ntmps11
  go_wp2
  go_loopw [5] (fun i wr => ∃ q : Nat, q ≤ ys.length ∧ i = .int .i64 (q : Int) ∧ Below w.heap.size w wr) (fun i _ => ys.length - (intOf i).toNat)
  case atStart => exact ⟨0, Nat.zero_le _, rfl, H0.out⟩
  case round =>
    obtain ⟨q, hq, rfl, hB⟩ := hrel
    have HR := Lib.hid hB
    clear hB
    by_cases hql : q < ys.length
    · obtain ⟨x, hx⟩ : ∃ x, ys[q]? = some x := ⟨ys[q], List.getElem?_eq_getElem _⟩
      obtain ⟨rfl, b1, c1⟩ := (HA.out.below HR.out).cell q x hx
      obtain ⟨rfl, b2, c2⟩ := (HB.out.below HR.out).cell q x hx
      have hqI : (q : Int) < (ys.length : Int) := by omega
      clear hx
      go_wp2_with fail
      go_quiet (fail)
      have HQ := Lib.hid (below_drewN HR.out nq)
      go_wp2
      go_roundw
      case rel => exact ⟨q + 1, by omega, by go_num, HQ.out⟩
      case measure => simp [intOf]; omega
    · obtain rfl : q = ys.length := by omega
      go_wp2
      go_ret
      exact ⟨rfl, HR.out⟩
section
variable {w W : World} {B : Nat} {V : Value} {l : List Int}
theorem Ir.lt (h : Ir w B V l) {j : Nat} (hj : V.ownBlock = some j) : B ≤ j ∧ j < w.heap.size := by
  rcases h with ⟨rfl, rfl⟩ | ⟨g, off, cap, cur, rfl, h1, h2, _⟩
  · cases hj
  · cases hj
    refine ⟨h1, ?_⟩
    rcases Nat.lt_or_ge g w.heap.size with hlt | hge
    · exact hlt
    · rw [Array.getElem?_eq_none hge] at h2; cases h2
theorem Ir.keep (h : Ir w B V l) (hb : ∀ j, V.ownBlock = some j → W.heap[j]? = w.heap[j]?) : Ir W B V l := by
  rcases h with h | ⟨g, off, cap, cur, rfl, h1, h2, h3⟩
  · exact .inl h
  · exact .inr ⟨g, off, cap, cur, rfl, h1, (hb g rfl).trans h2, h3⟩
theorem Ir.sl (h : Ir w B V l) : ∃ A cap g off, V = .slice A l.length cap ∧ No w A cap g off l := by
  have hlt := fun k (hk : V.ownBlock = some k) => (h.lt hk).2
  rcases h with ⟨rfl, rfl⟩ | ⟨g, off, cap, cur, rfl, h1, h2, h3, _, h5, h6⟩
  · exact ⟨none, 0, 0, 0, rfl, Nat.zero_le _, fun j x hj => by cases hj⟩
  · refine ⟨_, cap, g, off, rfl, h3, fun j x hj => ⟨rfl, hlt g rfl, ?_⟩⟩
    rw [cell_of_row w g _ cur 3 (0, 0) h2]
    exact h6 j x hj
theorem Ir.of_row (h : w.ownsRow B 3 1 V l.length (ivs l)) : Ir w B V l := by
  obtain ⟨h0, ⟨rfl, h2⟩ | ⟨b, cap, cur, rfl, e2, e3, e4, e5, e6, e7⟩⟩ := h
  · exact .inl ⟨rfl, List.length_eq_zero_iff.1 h2⟩
  · refine .inr ⟨b, 0, cap, cur, rfl, e2, e3, e4, e5, by omega, fun j x hj => ?_⟩
    have hl := (List.getElem?_eq_some_iff.1 hj).1
    have g0 : (ivs l)[j]? = some (.int .i64 x) := by unfold ivs; rw [List.getElem?_map, hj]; rfl
    rw [← e7, List.getElem?_take, if_pos (by omega), Array.getElem?_toList] at g0
    rw [Nat.zero_add]
    exact g0
theorem Ir.up (h : Ir w B V l) {C : Nat} (hC : C ≤ B) : Ir w C V l := by
  rcases h with h | ⟨g, off, cap, cur, rfl, h1, h2⟩
  · exact .inl h
  · exact .inr ⟨g, off, cap, cur, rfl, by omega, h2⟩
end
theorem ivs_cell {l : List Int} {j : Nat} {u : Value} (h : (ivs l)[j]? = some u) : ∃ x, l[j]? = some x ∧ u = .int .i64 x := by
  unfold ivs at h
  rw [List.getElem?_map] at h
  cases e : l[j]? with
  | none => rw [e] at h; cases h
  | some x => rw [e] at h; exact ⟨x, rfl, (Option.some.inj h).symm⟩
/-- One more, at whatever slice. -/
theorem Ir.push {w : World} {B : Nat} {V : Value} {l : List Int} (h : Ir w B V l) (hB : B ≤ w.heap.size) (hn : l.length ≤ 1000000) (ty : TypeId) {ad : Addr} {c : Nat} (x : Int) (hc : ∀ j u, [Value.int .i64 x][j]? = some u → w.cell? (ad.add j) = some u)
    {i : TypeInfo} (hi : Try.prog.info? 3 = some i) (hz : i.zero = some (.int .i64 0)) (hs : i.size = 1) (hby : i.bytes = 8) :
    ∃ V' w', (Builtin.append_ #[34, 34] ty #[V, .slice (some ad) 1 c]).run Try.prog w = .ok V' w' ∧ Ir w' B V' (l ++ [x]) ∧ w.grownBy w' V.ownBlock ∧ (∀ k, V'.ownBlock = some k → V.ownBlock = some k ∨ w.heap.size ≤ k) := by
  have hone : ∀ u ∈ [Value.int .i64 x], u.oneCell' = true := by
    intro u hu
    simp at hu
    rw [hu]; rfl
  have hlx : (l ++ [x]).length = l.length + 1 := by simp
  rcases h with ⟨rfl, rfl⟩ | ⟨g, off, cap, cur, rfl, h1, h2, h3, h4, h5, h6⟩
  · obtain ⟨v', w', hrun, r1, r2, r3⟩ := run_append_own (P := Try.prog) w w.heap.size 34 ty 3 i _ 1 8 Try.underlying34 hi hz hs hby rfl (by decide) (.slice none 0 0) 0 [] (World.ownsRow_nil w _ 3 1) ad 1 c [Value.int .i64 x] rfl hc hone (by unfold maxLen; omega) (by omega) (Nat.le_refl _)
    exact ⟨v', w', hrun, (Ir.of_row (l := [x]) (by simpa [ivs] using r1)).up hB, r2, fun k hk => .inr (r1.lt k hk).1⟩
  · by_cases hr : l.length + 1 ≤ cap
    · have hsp : ∀ j, j < [Value.int .i64 x].length → (w.cell? ⟨g, off + l.length * i.size + j, none⟩).isSome = true ∧ w.frozen? ⟨g, off + l.length * i.size + j, none⟩ = false := by
        intro j hj
        have hj : j < 1 := hj
        rw [hs]
        refine ⟨?_, by simp [World.frozen?, h2]⟩
        rw [cell_of_row w g _ cur 3 (0, 0) h2, Array.getElem?_eq_getElem (by omega)]
        rfl
      have hrun := run_append_room_cells (P := Try.prog) w 34 ty 3 i Try.underlying34 hi g off l.length cap ad 1 c [Value.int .i64 x] (by rw [hs]; rfl) hc hone hr (fun j hj => (hsp j hj).1) (fun j hj => (hsp j hj).2)
      rw [hs] at hrun
      refine ⟨_, _, hrun, .inr ⟨g, off, cap, cur.setIfInBounds (off + l.length * 1) (.int .i64 x), by rw [hlx], h1, ?_, by rw [hlx]; exact hr, h4, by simpa using h5, fun j r hj => ?_⟩, ?_, fun k hk => .inl hk⟩
      · simp [World.setCells, World.setCell, Array.getElem?_modify, h2]
      · by_cases hjl : j < l.length
        · rw [List.getElem?_append_left hjl] at hj
          have e1 := h6 j r hj
          simp only [Array.getElem?_setIfInBounds]
          rw [if_neg (by omega)]
          exact e1
        · have hje : j = l.length := by
            have := (List.getElem?_eq_some_iff.1 hj).1
            omega
          subst hje
          rw [List.getElem?_append_right (Nat.le_refl _), Nat.sub_self] at hj
          cases hj
          simp only [Array.getElem?_setIfInBounds, Array.size_setIfInBounds]
          rw [if_pos (by omega), if_pos (by omega)]
      · refine ⟨rfl, rfl, rfl, by simp [World.setCells, World.setCell], fun j hj hne => ?_⟩
        have hne : g ≠ j := fun e => hne (by rw [← e]; rfl)
        exact setCells_other g j hne _ _ _
    · obtain ⟨v', w', hrun, r1, r2⟩ := run_append_arg_grows (P := Try.prog) w 34 ty 3 i _ 1 8 Try.underlying34 hi hz hs hby rfl (by decide) ⟨g, off, none⟩ l.length cap (ivs l) (by rw [ivs_len, Nat.mul_one]) (fun j u hj => by
        obtain ⟨y, hy, rfl⟩ := ivs_cell hj
        rw [add_plain, cell_of_row w g _ cur 3 (0, 0) h2]
        exact h6 j y hy) ad 1 c [Value.int .i64 x] rfl hc (by omega) (by unfold maxLen; omega) (by omega)
      exact ⟨v', w', hrun, (Ir.of_row (l := l ++ [x]) (by rw [ivs_snoc, hlx]; exact r1)).up hB, ⟨r2.os, r2.tape, r2.output, r2.size, fun j hj _ => r2.block j hj (by simp)⟩, fun k hk => .inr (r1.lt k hk).1⟩
theorem wpList_ipush {w : World} {ops : Array Oper} {rest : List Oper} {o : Oper} {a : Act} {K : Exit → Act → World → Prop} (hgd : o.guard = none) (s x : Operand)
    (ho : o.op = .call { callee := .builtin .append, args := #[s, x], argTypes := #[34, 34] }) {B : Nat} {V : Value} {l : List Int} (h : Ir w B V l) (hB : B ≤ w.heap.size) (hn : l.length ≤ 1000000) (hs : a.eval s = V)
    (ad : Addr) (c : Nat) (p : Int) (hx : a.eval x = .slice (some ad) 1 c) (hc : ∀ j u, [Value.int .i64 p][j]? = some u → w.cell? (ad.add j) = some u)
    {i : TypeInfo} (hi : Try.prog.info? 3 = some i) (hz : i.zero = some (.int .i64 0)) (hs2 : i.size = 1) (hby : i.bytes = 8)
    (hK : ∀ V' w', Ir w' B V' (l ++ [p]) → w.grownBy w' V.ownBlock → (∀ k, V'.ownBlock = some k → V.ownBlock = some k ∨ w.heap.size ≤ k) → wpList Try.prog ops K rest (a.put o.dst V') w') : wpList Try.prog ops K (o :: rest) a w := by
  refine wpList_plain hgd fun _ hK' => ?_
  obtain ⟨V', w', hrun, h1, h2, h3⟩ := h.push hB hn o.type (ad := ad) (c := c) p hc hi hz hs2 hby
  unfold Oper.wp
  simp [execOp, ho, resolve, invoke, builtin, hs, hx, hrun, Result.andThen]
  exact hK' _ _ (hK V' w' h1 h2 h3)
end Go.Proofs.Ytkhlimlcnlalgaa
