/- A row of the law's own that grows in a range over a function, and the number beside it. -/
import Derived.Test.YtglifomkhcikdaaWi
import Derived.RangeFuncWrites
import Derived.RangeFuncBox
import Derived.Deep.AppendLies
namespace Go.Proofs.Ytglifomkhcikdaa
open Go.RowKit
open Go.Lib
set_option linter.unusedVariables false
set_option linter.unusedSimpArgs false
set_option maxRecDepth 100000
theorem step_push {W : World} {base : Nat} {ops : Array Oper} {o : Oper} {a : Act} {K : Act → World → Prop} {Q : Exit → Act → World → Prop} {E : Prop} (hgd : o.guard = none) (s x : Operand)
    (ho : o.op = .call { callee := .builtin .append, args := #[s, x], argTypes := #[22, 22] }) {v : Value} {n : Nat} {l : List Int} (hs : a.eval s = v) (hown : W.ownsRow base 2 1 v n (vis l)) (u : Int) (gx : Nat)
    (hx : a.eval x = .slice (some ⟨gx, 0, none⟩) 1 1) (hc : Blk W gx 2 #[.int .i64 u]) (hn : n ≤ 1000) (hb : base ≤ W.heap.size)
    (h : ∀ g cap w', w'.ownsRow base 2 1 (.slice (some ⟨g, 0, none⟩) (n + 1) cap) (n + 1) (vis (l ++ [u])) → W.grownBy w' v.ownBlock → K (a.put o.dst (.slice (some ⟨g, 0, none⟩) (n + 1) cap)) w') :
    if Region.wanted o (yielded ops a.tmps) = true then Oper.wp Try.prog o a W K Q else E := by
  obtain ⟨i0, hi, hz0, hz1, hz2⟩ := info_parts info2
  refine step_append_lies W hgd s x 22 ho base 2 i0 (.int .i64 0) 1 8 Try.underlying22 hi hz0 hz1 hz2 rfl (by decide) v n (vis l) hs hown ⟨gx, 0, none⟩ 1 1 [.int .i64 u] hx rfl (World.news_of_block hc) (by simp [Value.oneCell']) (by decide) (by unfold maxLen; omega) (by omega) hb _ rfl ?_
  intro g cap w' h1 h2 _ _
  exact h g cap w' (by unfold vis at *; rw [List.map_append]; exact h1) h2
structure Lw (W0 W : World) (Ba Bn : Nat) (l : List Int) (nx : Int) : Prop where
  box : ∃ v, Blk W Ba 22 #[v] ∧ W.ownsRow W0.heap.size 2 1 v l.length (vis l)
  cnt : Blk W Bn 3 #[.int .i64 nx]
  tw : Tw W0 W Ba Bn
theorem tw_own {A B W0 : World} {row : Option Nat} {R g : Nat} (h : Tw W0 A R g) (hg : A.grownBy B row) (hr : ∀ r, row = some r → W0.heap.size ≤ r) : Tw W0 B R g :=
  ⟨hg.os.trans h.os, hg.tape.trans h.tape, hg.output.trans h.output, Nat.le_trans h.size hg.size, fun j h1 h2 h3 => (hg.block j (Nat.lt_of_lt_of_le h1 h.size) (fun e => by have := hr j e.symm; omega)).trans (h.block j h1 h2 h3)⟩
theorem Lw.own {W0 A B : World} {row : Option Nat} {Ba Bn : Nat} {l : List Int} {nx : Int} (h : Lw W0 A Ba Bn l nx) (hg : A.grownBy B row) (hr : ∀ r, row = some r → W0.heap.size ≤ r ∧ ∃ o : Obj, A.heap[r]? = some o ∧ o.isCells = false) : Lw W0 B Ba Bn l nx := by
  obtain ⟨⟨v, h1, h2⟩, h3, h4⟩ := h
  exact ⟨⟨v, blk_own h1 hg (fun r e => (hr r e).2), row_own h2 hg (fun r e => (hr r e).2)⟩, blk_own h3 hg (fun r e => (hr r e).2), tw_own h4 hg (fun r e => (hr r e).1)⟩
theorem keeps_alloc (W : World) (o : Obj) : KeepsOthers W (W.alloc o) := KeepsOthers.alloc W o
/-- Behind an append and its two stores. -/
theorem Lw.push {W0 W w2 : World} {Ba Bn n g cap : Nat} {v : Value} {l : List Int} {nx u : Int} (hb : Blk W Ba 22 #[v]) (hrow : W.ownsRow W0.heap.size 2 1 v n (vis l)) (hc : Blk W Bn 3 #[.int .i64 nx]) (ht : Tw W0 W Ba Bn) (hn : l.length = n)
    (c : Obj) (h1 : w2.ownsRow W0.heap.size 2 1 (.slice (some ⟨g, 0, none⟩) (n + 1) cap) (n + 1) (vis (l ++ [u]))) (h2 : (W.drew.alloc c).grownBy w2 v.ownBlock) (nx' : Int) :
    Lw W0 ((w2.setCell ⟨Ba, 0, none⟩ (.slice (some ⟨g, 0, none⟩) (n + 1) cap)).setCell ⟨Bn, 0, none⟩ (.int .i64 nx')) Ba Bn (l ++ [u]) nx' ∧ KeepsOthers W ((w2.setCell ⟨Ba, 0, none⟩ (.slice (some ⟨g, 0, none⟩) (n + 1) cap)).setCell ⟨Bn, 0, none⟩ (.int .i64 nx')) := by
  have hrow' : (W.drew.alloc c).ownsRow W0.heap.size 2 1 v n (vis l) := World.ownsRow.alloc hrow c
  have b2 : Blk w2 Ba 22 #[v] := blk_row ((Blk.alloc (Blk.drew hb) c : Blk (W.drew.alloc c) Ba 22 #[v])) hrow' (by decide) h2
  have c2 : Blk w2 Bn 3 #[.int .i64 nx] := blk_row ((Blk.alloc (Blk.drew hc) c : Blk (W.drew.alloc c) Bn 3 #[.int .i64 nx])) hrow' (by decide) h2
  have hne : Ba ≠ Bn := fun e => by subst e; unfold Blk at hb hc; rw [hb] at hc; cases hc
  have hga : g ≠ Ba := fun e => by
    subst e
    rcases h1.2 with ⟨e1, _⟩ | ⟨g', cap', cur, e1, _, hgb, _⟩
    · cases e1
    · cases e1; unfold Blk at b2; rw [hgb] at b2; cases b2
  have hgn : g ≠ Bn := fun e => by
    subst e
    rcases h1.2 with ⟨e1, _⟩ | ⟨g', cap', cur, e1, _, hgb, _⟩
    · cases e1
    · cases e1; unfold Blk at c2; rw [hgb] at c2; cases c2
  have b3 := b2.set_ 0 (.slice (some ⟨g, 0, none⟩) (n + 1) cap)
  have c3 : Blk (w2.setCell ⟨Ba, 0, none⟩ (.slice (some ⟨g, 0, none⟩) (n + 1) cap)) Bn 3 #[.int .i64 nx] := c2.far (fun e => hne e.symm) _
  refine ⟨⟨⟨_, b3.far hne _, ?_⟩, c3.set_ 0 _, ?_⟩, ?_⟩
  · rw [List.length_append, hn]
    obtain ⟨h0, ⟨h3, _⟩ | ⟨b, cp, cur, e1, e2, e3, e4⟩⟩ := h1
    · cases h3
    · refine ⟨h0, .inr ⟨b, cp, cur, e1, e2, ?_, e4⟩⟩
      cases e1
      exact (Below.heap_setCell _ _ _ _ hgn).trans ((Below.heap_setCell _ _ _ _ hga).trans e3)
  · refine (Tw.setCell (Tw.setCell (tw_own (Tw.alloc (Tw.drew ht) c) h2 (fun r e => ?_)) (p := ⟨Ba, 0, none⟩) (.inl rfl) _) (p := ⟨Bn, 0, none⟩) (.inr (.inl rfl)) _)
    exact (hrow.lt r e).1
  · refine (KeepsOthers.drew W).trans ((KeepsOthers.alloc _ c).trans (KeepsOthers.trans ?_ ((KeepsOthers.setCell _ _ _).trans (KeepsOthers.setCell _ _ _))))
    refine KeepsOthers.of_grownBy h2 (fun r o e ho => ?_)
    rcases hrow'.2 with ⟨rfl, _⟩ | ⟨b, cp, cur, rfl, _, hgb, _⟩
    · cases e
    · cases e
      rw [hgb] at ho
      cases ho
      rfl
theorem wpList_min {w : World} {ops : Array Oper} {rest : List Oper} {o : Oper} {a : Act} {Q : Exit → Act → World → Prop} (hgd : o.guard = none) (x y : Operand)
    (ho : o.op = .call { callee := .builtin .min, args := #[x, y], argTypes := #[3, 3] }) {p q : Int} (hx : a.eval x = .int .i64 p) (hy : a.eval y = .int .i64 q)
    (hK : wpList Try.prog ops Q rest (a.put o.dst (.int .i64 (min p q))) w) : wpList Try.prog ops Q (o :: rest) a w := by
  refine wpList_plain hgd fun K hK' => ?_
  have hrun : (Builtin.min_ #[3, 3] o.type #[.int .i64 p, .int .i64 q]).run Try.prog w = .ok (.int .i64 (min p q)) w := by
    rw [run_min_int2]
    by_cases h : q < p
    · rw [if_pos h, show min p q = q by omega]
    · rw [if_neg h, show min p q = p by omega]
  unfold Oper.wp
  simp [execOp, ho, resolve, invoke, builtin, hx, hy, hrun, Result.andThen]
  exact hK' _ _ hK
theorem row_cell {w : World} {B n : Nat} {V : Value} {l : List Int} (h : w.ownsRow B 2 1 V n (vis l)) (hl : l.length = n) : ∃ A cap g, V = .slice A n cap ∧ ∀ (j : Nat) (x : Int), l[j]? = some x → A = some ⟨g, 0, none⟩ ∧ g < w.heap.size ∧ w.cell? ⟨g, j, none⟩ = some (.int .i64 x) := by
  obtain ⟨h0, ⟨rfl, e⟩ | ⟨b, cap, cur, rfl, e2, e3, e4, e5, e6, e7⟩⟩ := h
  · refine ⟨none, 0, 0, by rw [e], fun j x hj => ?_⟩
    rw [List.length_eq_zero_iff.1 (by omega : l.length = 0)] at hj
    cases hj
  · refine ⟨_, cap, b, rfl, fun j x hj => ⟨rfl, ?_, ?_⟩⟩
    · rcases Nat.lt_or_ge b w.heap.size with hlt | hge
      · exact hlt
      · rw [Array.getElem?_eq_none hge] at e3; cases e3
    · rw [cell_of_row w b j cur 2 (0, 0) e3]
      have hlj := (List.getElem?_eq_some_iff.1 hj).1
      have hv := vis_get hj
      rw [← e7, List.getElem?_take, if_pos (by omega)] at hv
      rw [← Array.getElem?_toList]; exact hv
theorem row_tw {w w' : World} {B n R g : Nat} {V : Value} {l : List Value} (h : w.ownsRow B 2 1 V n l) (ht : Tw w w' R g) (h1 : R < B) (h2 : g < B) : w'.ownsRow B 2 1 V n l := by
  obtain ⟨h0, h3 | ⟨b, cap, cur, rfl, e2, e3, e4⟩⟩ := h
  · exact ⟨h0, .inl h3⟩
  · refine ⟨h0, .inr ⟨b, cap, cur, rfl, e2, (ht.block b ?_ (by omega) (by omega)).trans e3, e4⟩⟩
    rcases Nat.lt_or_ge b w.heap.size with hlt | hge
    · exact hlt
    · rw [Array.getElem?_eq_none hge] at e3; cases e3
theorem row_up {w : World} {B n : Nat} {V : Value} {l : List Value} (h : w.ownsRow B 2 1 V n l) (o : Obj) : (w.alloc o).ownsRow B 2 1 V n l := World.ownsRow.alloc h o
theorem drewN_two (w : World) (a b : Nat) : (w.drewN a).drewN b = w.drewN (a + b) := by
  unfold World.drewN
  simp [Nat.add_assoc]
theorem upto_get (ys : List Int) (k j : Nat) : (upto ys k)[j]? = if j < k then (ys[j]?).map (fun y => ((j : Int), y)) else none := by
  unfold upto
  rw [List.getElem?_map, List.getElem?_zipIdx, List.getElem?_take]
  by_cases h : j < k
  · rw [if_pos h, if_pos h]
    cases ys[j]? <;> simp
  · rw [if_neg h, if_neg h]; rfl
theorem enum_at {ys : List Int} {j : Nat} {p : Pr} (h : (enumL ys)[j]? = some p) : p.1 = (j : Int) ∧ ys[j]? = some p.2 := by
  unfold enumL at h
  rw [upto_get] at h
  split at h
  · cases hy : ys[j]? with
    | none => rw [hy] at h; cases h
    | some y => rw [hy] at h; cases h; exact ⟨rfl, rfl⟩
  · cases h
theorem upto_snd (ys : List Int) (k : Nat) : (upto ys k).map Prod.snd = ys.take k := by
  refine List.ext_getElem? (fun j => ?_)
  rw [List.getElem?_map, upto_get, List.getElem?_take]
  by_cases h : j < k
  · rw [if_pos h, if_pos h]
    cases ys[j]? <;> rfl
  · rw [if_neg h, if_neg h]; rfl
theorem enum_len (ys : List Int) : (enumL ys).length = ys.length := upto_len _ _ (Nat.le_refl _)
theorem walk_done {ys : List Int} {n : Nat} {st : Int} (hn : ys.length = n) (h : ∀ p ∈ enumL ys, p.1 < st) : (enumL ys).map Prod.snd = ys.take (min n st.toNat) ∧ (enumL ys).length = min n st.toNat := by
  have hm : min n st.toNat = n := by
    rcases Nat.eq_zero_or_pos n with h0 | h0
    · omega
    · obtain ⟨p, hp⟩ : ∃ p, (enumL ys)[n - 1]? = some p := ⟨(enumL ys)[n - 1]'(by rw [enum_len]; omega), List.getElem?_eq_getElem _⟩
      have h1 := h p (List.mem_of_getElem? hp)
      rw [(enum_at hp).1] at h1
      omega
  rw [hm]
  exact ⟨by unfold enumL; rw [upto_snd, hn], by rw [enum_len, hn]⟩
theorem walk_left {ys : List Int} {n : Nat} {st : Int} {pre : List Pr} {x : Pr} (hn : ys.length = n) (hp : pre ++ [x] <+: enumL ys) (h : ∀ p ∈ pre, p.1 < st) (hx : x.1 = ((pre.length : Nat) : Int) → st ≤ x.1) : pre.map Prod.snd = ys.take (min n st.toNat) ∧ pre.length = min n st.toNat := by
  obtain ⟨r, hr⟩ := hp
  have hl : pre.length + 1 + r.length = n := by have := congrArg List.length hr; rw [enum_len, hn] at this; simp at this; omega
  have hxe : (enumL ys)[pre.length]? = some x := by rw [← hr]; simp
  have h1 := hx (enum_at hxe).1
  rw [(enum_at hxe).1] at h1
  have hm : pre.length = min n st.toNat := by
    rcases Nat.eq_zero_or_pos pre.length with h0 | h0
    · omega
    · obtain ⟨p, hp⟩ : ∃ p, pre[pre.length - 1]? = some p := ⟨pre[pre.length - 1]'(by omega), List.getElem?_eq_getElem _⟩
      have h2 := h p (List.mem_of_getElem? hp)
      have h3 : (enumL ys)[pre.length - 1]? = some p := by rw [← hr, List.append_assoc, List.getElem?_append_left (by omega)]; exact hp
      rw [(enum_at h3).1] at h2
      omega
  refine ⟨?_, hm⟩
  rw [← hm]
  have e : pre = (enumL ys).take pre.length := by rw [← hr, List.append_assoc]; simp
  conv => lhs; rw [e]
  have e2 := upto_snd ys ys.length
  rw [List.map_take]
  unfold enumL
  rw [e2, List.take_length]
theorem back_done {ys pre : List Int} {n : Nat} {st : Int} (hn : ys.length = n) (hp : pre <+: ys.reverse) (h : ((pre.length : Nat) : Int) ≤ max st 0) (hx : pre.length = n ∨ st ≤ ((pre.length : Nat) : Int)) : pre = ys.reverse.take (min n st.toNat) ∧ pre.length = min n st.toNat := by
  have hl := hp.length_le
  rw [List.length_reverse, hn] at hl
  have hm : pre.length = min n st.toNat := by omega
  exact ⟨by rw [← hm]; exact List.prefix_iff_eq_take.1 hp, hm⟩
end Go.Proofs.Ytglifomkhcikdaa
