/- The reference's lock: may the first come in; what a call leaves; append of a part that may be empty. -/
import Derived.Test.YtkhlimlcnlalgaaPd
import Derived.Deep.RegionLaw
namespace Go.Proofs.Ytkhlimlcnlalgaa
open Go.RowKit Go.Maps
open Go.Lib
set_option linter.unusedVariables false
set_option linter.unusedSimpArgs false
set_option maxRecDepth 100000
section
variable {P : Program} {w : World}
theorem run_nought (base : Nat) (t ty e : TypeId) (i : TypeInfo) (size : Nat) (ht : P.underlying t = some (.slice e)) (hi : P.info? e = some i)
    (v : Value) (n : Nat) (xs : List Value) (hown : w.ownsRow base e size v n xs) (A : Option Addr) (c : Nat) :
    (Builtin.append_ #[t, t] ty #[v, .slice A 0 c]).run P w = .ok v w := by
  have hlc : ∀ a : Addr, (loadCells a 0).run P w = .ok #[] w := fun a => by simp [loadCells, loadCellsFrom]
  rcases hown.2 with ⟨rfl, rfl⟩ | ⟨g, cap, cur, rfl, _, _, hnc, _⟩
  · cases A <;> simp [Builtin.append_, run_underlying ht, sizeOf, typeInfo, hi, Builtin.lenOf, Builtin.firstCells, hlc, Result.andThen]
  · cases A <;> simp [Builtin.append_, run_underlying ht, sizeOf, typeInfo, hi, Builtin.lenOf, Builtin.firstCells, hlc, hnc, storeCells, Result.andThen]
end
/-- Append of a part of a slice, in a straight walk; the part may be empty. -/
theorem wpList_append_any {P : Program} {w : World} {ops : Array Oper} {rest : List Oper} {o : Oper} {a : Act} {K : Exit → Act → World → Prop} (hgd : o.guard = none) (s x : Operand) (t : TypeId)
    (ho : o.op = .call { callee := .builtin .append, args := #[s, x], argTypes := #[t, t] })
    (base : Nat) (e : TypeId) (i : TypeInfo) (z : Value) (size bytes : Nat) (ht : P.underlying t = some (.slice e)) (hi : P.info? e = some i) (hz : i.zero = some z)
    (hsize : i.size = size) (hby : i.bytes = bytes) (hzs : z.cells.size = size) (hsz : 0 < size)
    (v : Value) (n : Nat) (xs : List Value) (hs : a.eval s = v) (hown : w.ownsRow base e size v n xs)
    (A : Option Addr) (m c : Nat) (news : List Value) (hx : a.eval x = .slice A m c) (hl : news.length = m * size) (hA : 0 < m → ∃ ad, A = some ad ∧ ∀ j u, news[j]? = some u → w.cell? (ad.add j) = some u) (h1 : ∀ u ∈ news, u.oneCell' = true)
    (h63 : n + m ≤ maxLen) (hbytes : (n + m) * bytes ≤ 140737488355328) (hbase : base ≤ w.heap.size)
    (h : ∀ v' w', w'.ownsRow base e size v' (n + m) (xs ++ news) → w.grownBy w' v.ownBlock → (∀ k, v'.ownBlock = some k → v.ownBlock = some k ∨ w.heap.size ≤ k) → wpList P ops K rest (a.put o.dst v') w') : wpList P ops K (o :: rest) a w := by
  rcases Nat.eq_zero_or_pos m with h0 | h0
  · subst h0
    have hnil : news = [] := List.length_eq_zero_iff.1 (by rw [hl]; omega)
    subst hnil
    refine wpList_plain hgd fun _ hK' => ?_
    have hrun := run_nought (P := P) (w := w) base t o.type e i size ht hi v n xs hown A c
    unfold Oper.wp
    simp [execOp, ho, resolve, invoke, builtin, hs, hx, hrun, Result.andThen]
    exact hK' _ _ (h v w (by simpa using hown) (World.grownBy.refl w _) (fun k hk => .inl hk))
  · obtain ⟨ad, rfl, hc⟩ := hA h0
    refine wpList_append_lies w hgd s x t ho base e i z size bytes ht hi hz hsize hby hzs hsz v n xs hs hown ad m c news hx hl hc h1 h0 h63 hbytes hbase _ rfl ?_
    intro g cap w' h2 h3 h4 h5
    exact h _ w' h2 h3 (fun k hk => by
      cases hk
      rcases h4 with h4 | h4
      · exact .inl h4
      · exact .inr (by show _ ≤ g; omega))
/-- Does the first who holds it write? -/
def hwB : List Pq → Bool
  | [] => false
  | p :: _ => p.2 == 3
theorem may_ref {H : List Pq} (ha : wrB H = true → H.length = 1) (v : Int) : mayB H v = !(((v == 3) && decide (0 < H.length)) || (decide (0 < H.length) && hwB H)) := by
  cases H with
  | nil => rw [may_nil]; simp
  | cons p H =>
    have e : wrB (p :: H) = hwB (p :: H) := by
      show wrB (p :: H) = (p.2 == 3)
      cases hp : (p.2 == 3) with
      | true => unfold wrB; rw [List.any_cons, hp]; rfl
      | false =>
        cases hw : wrB (p :: H) with
        | false => rfl
        | true =>
          have h1 := ha hw
          have h2 : H = [] := List.length_eq_zero_iff.1 (by simpa using h1)
          subst h2
          unfold wrB at hw
          rw [List.any_cons, hp] at hw
          exact absurd hw (by decide)
    unfold mayB
    rw [e]
    by_cases h3 : v = 3
    · subst h3; simp
    · rw [if_neg h3, beq_false_of_ne h3]; simp
/-- Who came in writes alone, once more. -/
theorem alone_in_mv {H : List Pq} (ha : wrB H = true → H.length = 1) {p : Pq} (hm : mayB H p.2 = true) : wrB (H ++ [p]) = true → (H ++ [p]).length = 1 := by
  intro h
  rw [wrB_append] at h
  unfold mayB at hm
  by_cases h3 : p.2 = 3
  · rw [if_pos h3] at hm
    have : H = [] := List.isEmpty_iff.1 hm
    rw [this]; rfl
  · rw [if_neg h3] at hm
    have e : wrB H = false := by simpa using hm
    rw [e, beq_false_of_ne h3] at h
    exact absurd h (by decide)
/-- What a call on the reference's lock leaves as it was. -/
structure Kr (w w' : World) (g : Nat) (Vi Vq Vi' Vq' : Value) : Prop where
  os : w'.os = w.os
  tape : w'.tape = w.tape
  output : w'.output = w.output
  size : w.heap.size ≤ w'.heap.size
  block : ∀ j, j < w.heap.size → j ≠ g → Vi.ownBlock ≠ some j → Vq.ownBlock ≠ some j → w'.heap[j]? = w.heap[j]?
  own : ∀ j, Vi'.ownBlock = some j ∨ Vq'.ownBlock = some j → (Vi.ownBlock = some j ∨ Vq.ownBlock = some j) ∨ w.heap.size ≤ j
section
variable {w w' w2 : World} {g C : Nat} {Vi Vq Vi' Vq' V2 U2 : Value} {Q H : List Pq}
theorem Kr.refl (w : World) (g : Nat) (Vi Vq : Value) : Kr w w g Vi Vq Vi Vq := ⟨rfl, rfl, rfl, Nat.le_refl _, fun _ _ _ _ _ => rfl, fun _ h => .inl h⟩
theorem Kr.of (h : Below w.heap.size w w') : Kr w w' g Vi Vq Vi Vq := ⟨h.os, h.tape, h.output, h.size, fun j hj _ _ _ => h.block j hj, fun _ h => .inl h⟩
theorem Kr.trans (h : Kr w w' g Vi Vq Vi' Vq') (k : Kr w' w2 g Vi' Vq' V2 U2) : Kr w w2 g Vi Vq V2 U2 :=
  ⟨k.os.trans h.os, k.tape.trans h.tape, k.output.trans h.output, Nat.le_trans h.size k.size, fun j hj h1 h2 h3 => (k.block j (Nat.lt_of_lt_of_le hj h.size) h1 (fun e => by
    rcases h.own j (.inl e) with (e | e) | e
    · exact h2 e
    · exact h3 e
    · omega) (fun e => by
    rcases h.own j (.inr e) with (e | e) | e
    · exact h2 e
    · exact h3 e
    · omega)).trans (h.block j hj h1 h2 h3), fun j hj => by
    rcases k.own j hj with e | e
    · exact h.own j e
    · exact .inr (Nat.le_trans h.size e)⟩
theorem Kr.below (h : Rk w g C Vi Vq Q H) (hk : Kr w w' g Vi Vq Vi' Vq') (hC : C ≤ w.heap.size) : Below C w w' :=
  ⟨hk.os, hk.tape, hk.output, hk.size, fun j hj => hk.block j (by omega) (fun e => by have := h.ge; omega) (fun e => by have := (h.i.lt j e).1; omega) (fun e => by have := (h.q.lt j e).1; omega)⟩
/-- The box's first row is another. -/
theorem Rk.in_ (h : Rk w g C Vi Vq Q H) {H' : List Pq} (hb : Blk w' g 29 #[Vi', Vq]) (hi : w'.ownsRow C 48 2 Vi' H'.length (rcells H')) (hq : ∀ j, Vq.ownBlock = some j → w'.heap[j]? = w.heap[j]?) (ho : ∀ j, Vi'.ownBlock = some j → Vi.ownBlock = some j ∨ w.heap.size ≤ j) : Rk w' g C Vi' Vq Q H' :=
  ⟨hb, hi, row2_keep h.q hq, fun e => by
    rcases ho g e with e | e
    · exact h.ni e
    · have := h.box.lt; omega, h.nq, fun j e e2 => by
    rcases ho j e with e | e
    · exact h.ap j e e2
    · have := (h.q.lt j e2).2; omega, h.ge⟩
/-- The box's second row is another. -/
theorem Rk.queue_ (h : Rk w g C Vi Vq Q H) {Q' : List Pq} (hb : Blk w' g 29 #[Vi, Vq']) (hq : w'.ownsRow C 48 2 Vq' Q'.length (rcells Q')) (hi : ∀ j, Vi.ownBlock = some j → w'.heap[j]? = w.heap[j]?) (ho : ∀ j, Vq'.ownBlock = some j → Vq.ownBlock = some j ∨ w.heap.size ≤ j) : Rk w' g C Vi Vq' Q' H :=
  ⟨hb, row2_keep h.i hi, hq, h.ni, fun e => by
    rcases ho g e with e | e
    · exact h.nq e
    · have := h.box.lt; omega, fun j e e2 => by
    rcases ho j e2 with e2 | e2
    · exact h.ap j e e2
    · have := (h.i.lt j e).2; omega, h.ge⟩
end
/-- The length that lies in the box's second cell. -/
def qLen2 (w : World) (g : Nat) : Nat := match w.cell? ⟨g, 1, none⟩ with
  | some (.slice _ n _) => n
  | _ => 0
theorem row2_drew {W : World} {B : Nat} {v : Value} {n : Nat} {vs : List Value} (h : W.ownsRow B 48 2 v n vs) : W.drew.ownsRow B 48 2 v n vs := row2_keep h (fun _ _ => rfl)
theorem cut_rest (A : Option Addr) (n cap : Nat) (hn : 1 ≤ n) : ∃ A', (∀ W : World, (Instr.sliceAt 27 (.slice A n cap) (some (.int .i64 1)) none none).run Try.prog W = .ok (.slice A' (n - 1) (cap - 1)) W) ∧ (0 < n - 1 → n ≤ cap → A' = A.map fun p => p.add 2) := by
  refine ⟨if cap = 1 then A else A.map fun p => p.add 2, fun W => ?_, fun h1 h2 => if_neg (by omega)⟩
  rw [run_sliceAt_slice W 27 _ _ _ _ (by exact Try.underlying27), run_slice_l W 27 _ _ _ (by exact Try.underlying27) _ _ (by omega) (by omega)]
  have e : Try.prog.elem 27 = 48 := by kernel_rfl
  have e2 : (sizeOf 48).run Try.prog W = .ok 2 W := by kernel_rfl
  have e3 : (1 : Int).toNat = 1 := rfl
  rw [e, e2, e3]
  simp only [Result.andThen, sliced, Option.map_some]
/-- One more among those who hold it: the box's first cell is set. -/
theorem in_done2 {wr wp w3 : World} {g C n1 k1 n : Nat} {V1 V2 : Value} {Q H H' : List Pq} (hl : Rk wr g C V1 V2 Q H) (hk : KB wr.heap.size wr wp) (hg : wp.grownBy w3 V1.ownBlock) (hw : w3.ownsRow C 48 2 (.slice (some ⟨n1, 0, none⟩) n k1) n (rcells H')) (hn : H'.length = n) (ho : V1.ownBlock = some n1 ∨ wp.heap.size ≤ n1) :
    Rk (w3.setCell ⟨g, 0, none⟩ (.slice (some ⟨n1, 0, none⟩) n k1)) g C (.slice (some ⟨n1, 0, none⟩) n k1) V2 Q H' ∧ Kr wr (w3.setCell ⟨g, 0, none⟩ (.slice (some ⟨n1, 0, none⟩) n k1)) g V1 V2 (.slice (some ⟨n1, 0, none⟩) n k1) V2 := by
  subst hn
  have hgl := hl.box.lt
  have hps := hk.2.size
  have hset : ∀ j, j ≠ g → (w3.setCell ⟨g, 0, none⟩ (.slice (some ⟨n1, 0, none⟩) H'.length k1)).heap[j]? = w3.heap[j]? := fun j hj => Below.heap_setCell w3 ⟨g, 0, none⟩ _ j hj
  have hold : ∀ j, j < wr.heap.size → V1.ownBlock ≠ some j → w3.heap[j]? = wr.heap[j]? := fun j hj h1 => (hg.block j (by omega) (fun e => h1 e.symm)).trans (hk.2.block j hj)
  have hbox : Blk w3 g 29 #[V1, V2] := (hold g hgl hl.ni).trans hl.box
  have hn1 : ∀ j, (Value.slice (some ⟨n1, 0, none⟩) H'.length k1).ownBlock = some j → V1.ownBlock = some j ∨ wr.heap.size ≤ j := by
    intro j hj
    obtain rfl : n1 = j := Option.some.inj hj
    rcases ho with e | e
    · exact .inl e
    · exact .inr (by omega)
  have hng : n1 ≠ g := by
    intro e
    rcases hn1 n1 rfl with h | h
    · exact hl.ni (by rw [h, e])
    · omega
  refine ⟨hl.in_ (hbox.set_ 0 _) (row2_keep hw (fun j hj => hset j (by obtain rfl : n1 = j := Option.some.inj hj; exact hng))) (fun j hj => ?_) hn1, ⟨?_, ?_, ?_, ?_, fun j hj h1 h2 h3 => (hset j h1).trans (hold j hj h2), fun j hj => ?_⟩⟩
  · have hjl := (hl.q.lt j hj).2
    exact (hset j (fun e => hl.nq (by rw [hj, e]))).trans (hold j hjl (fun e => hl.ap j e hj))
  · exact hg.os.trans hk.2.os
  · exact hg.tape.trans hk.2.tape
  · exact hg.output.trans hk.2.output
  · have := hg.size; simp [World.setCell]; omega
  · rcases hj with hj | hj
    · rcases hn1 j hj with h | h
      · exact .inl (.inl h)
      · exact .inr h
    · exact .inl (.inr hj)
end Go.Proofs.Ytkhlimlcnlalgaa
