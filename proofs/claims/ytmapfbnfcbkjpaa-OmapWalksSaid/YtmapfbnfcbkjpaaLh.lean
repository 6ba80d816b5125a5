/- OmapPlays: a map beside two rows of the law's own. -/
import Derived.Test.YtmapfbnfcbkjpaaLg
namespace Go.Proofs.Ytmapfbnfcbkjpaa
open Go.RowKit
open Go.Lib
open Go.ChangeShapes Go.ChangeAt
set_option linter.unusedVariables false
set_option linter.unusedSimpArgs false
set_option maxRecDepth 100000
/-- An append onto a new row: only what is new is written. -/
theorem step_fr_append {P : Program} {w0 : World} (w : World) {ops : Array Oper} {o : Oper} {a : Act} {K : Act → World → Prop} {Q : Exit → Act → World → Prop} {E : Prop} (hgd : o.guard = none) (s x : Operand) (t : TypeId)
    (ho : o.op = .call { callee := .builtin .append, args := #[s, x], argTypes := #[t, t] })
    (e : TypeId) (i : TypeInfo) (z : Value) (bytes : Nat) (ht : P.underlying t = some (.slice e)) (hi : P.info? e = some i) (hz : i.zero = some z)
    (hsize : i.size = 1) (hby : i.bytes = bytes) (hzs : z.cells.size = 1)
    (v : Value) (n : Nat) (xs : List Value) (hs : a.eval s = v) (hF : Fr w0 w) (hown : w.ownsRow w0.heap.size e 1 v n xs)
    (A : Option Addr) (m c : Nat) (news : List Value) (hx : a.eval x = .slice A m c) (hl : news.length = m) (hA : 0 < m → ∃ ad, A = some ad ∧ ∀ j u, news[j]? = some u → w.cell? (ad.add j) = some u) (h1 : ∀ u ∈ news, u.oneCell' = true)
    (h63 : n + m ≤ 1000) (hb : bytes ≤ 16)
    (h : ∀ v' w', w'.ownsRow w0.heap.size e 1 v' (n + m) (xs ++ news) → Fr w0 w' → (∀ b t cs, Blk w b t cs → v.ownBlock ≠ some b → Blk w' b t cs) → K (a.put o.dst v') w') :
    if Region.wanted o (yielded ops a.tmps) = true then Oper.wp P o a w K Q else E := by
  refine step_append_any w hgd s x t ho w0.heap.size e i z 1 bytes ht hi hz hsize hby hzs (by decide) v n xs hs hown A m c news hx (by omega) hA h1 (by unfold maxLen; omega) ?_ hF.le ?_
  · have : (n + m) * bytes ≤ 1000 * 16 := Nat.mul_le_mul h63 hb
    omega
  · intro v' w' h2 h3 h4
    exact h v' w' h2 (hF.grown h3 (fun j e => (hown.lt j e).1)) (fun b t cs hb hne => hb.grown h3 (fun e => hne e.symm))
theorem row_ty {w w' : World} {base : Nat} {e : TypeId} {k n : Nat} {v : Value} {xs : List Value} (h : w.ownsRow base e k v n xs) (hk : ∀ j cur, v.ownBlock = some j → Blk w j e cur → w'.heap[j]? = w.heap[j]?) : w'.ownsRow base e k v n xs := by
  obtain ⟨h0, h3 | ⟨b, cap, cur, rfl, e2, e3, e4⟩⟩ := h
  · exact ⟨h0, .inl h3⟩
  · exact ⟨h0, .inr ⟨b, cap, cur, rfl, e2, (hk b cur rfl e3).trans e3, e4⟩⟩
theorem row_ko {w w' : World} {base g : Nat} {e t : TypeId} {k n : Nat} {v : Value} {xs : List Value} {cs : Array Value} (h : w.ownsRow base e k v n xs) (hb : Blk w g t cs) (ht : t ≠ e) (hk : OI.Ko w w' g) : w'.ownsRow base e k v n xs := row_ty h (fun j cur _ hj => hk.block j hj.lt (fun e' => by
  subst e'
  unfold Blk at hb hj
  rw [hb] at hj
  cases hj
  exact ht rfl))
theorem sv_of {w : World} {B : Nat} {e : TypeId} {A : Option Addr} {n cap : Nat} {vs : List Value} (h : w.ownsRow B e 1 (.slice A n cap) n vs) (hl : vs.length = n) : ∃ g, Sv w A cap g vs := by
  subst hl
  obtain ⟨A', cap', g, e', h2⟩ := sv_row h
  injection e' with e1 e2 e3
  subst e1 e3
  exact ⟨g, h2⟩
theorem sl_of {w : World} {A : Option Addr} {cap g : Nat} {l : List ByteArray} (h : Sv w A cap g (svs l)) : Sl w A cap g l :=
  ⟨by have := h.1; unfold svs at this; simpa using this, fun j x hj => h.2 j (.string x) (by unfold svs; rw [List.getElem?_map, hj]; rfl)⟩
def ivs (l : List Int) : List Value := l.map (Value.int .i64)
theorem svs_one (l : List ByteArray) : ∀ u ∈ svs l, u.oneCell' = true := by
  intro u hu
  obtain ⟨x, _, rfl⟩ := List.mem_map.1 hu
  rfl
theorem ivs_one (l : List Int) : ∀ u ∈ ivs l, u.oneCell' = true := by
  intro u hu
  obtain ⟨x, _, rfl⟩ := List.mem_map.1 hu
  rfl
theorem svs_len (l : List ByteArray) : (svs l).length = l.length := by unfold svs; rw [List.length_map]
theorem ivs_len (l : List Int) : (ivs l).length = l.length := by unfold ivs; rw [List.length_map]
theorem keysL_len' (L : LI) : (svs (keysL L)).length = L.length := by rw [svs_len, keysL_len]
theorem valsL_len' (L : LI) : (ivs (valsL L)).length = L.length := by rw [ivs_len]; unfold valsL; rw [List.length_map]
/-- The map, and the law's rows of its keys and of what is there. -/
structure Pl (w0 wr : World) (g n : Nat) (L : LI) (nL : Nat) (Ak : Option Addr) (ck : Nat) (Av : Option Addr) (cv : Nat) : Prop where
  om : OI.Om wr g L
  kr : wr.ownsRow w0.heap.size 9 1 (.slice Ak nL ck) nL (svs (keysL L))
  vr : wr.ownsRow w0.heap.size 2 1 (.slice Av nL cv) nL (ivs (valsL L))
  hl : L.length = nL
  bel : Below w0.heap.size w0 wr
  ge : w0.heap.size ≤ g
  len : L.length ≤ n
  key : ∀ q ∈ L, q.1.size ≤ 40
section
variable {w0 wr w' : World} {g n nL ck cv : Nat} {L : LI} {Ak Av : Option Addr}
theorem Pl.step (h : Pl w0 wr g n L nL Ak ck Av cv) (hb : Below wr.heap.size wr w') : Pl w0 w' g n L nL Ak ck Av cv :=
  ⟨h.om.below hb, row_below h.kr hb, row_below h.vr hb, h.hl, h.bel.trans (hb.mono h.bel.size), h.ge, h.len, h.key⟩
theorem Pl.up (h : Pl w0 wr g n L nL Ak ck Av cv) : Pl w0 wr g (n + 1) L nL Ak ck Av cv := { h with len := Nat.le_succ_of_le h.len }
theorem Pl.keys (h : Pl w0 wr g n L nL Ak ck Av cv) : ∃ gk, Sv wr Ak ck gk (svs (keysL L)) := sv_of h.kr (by rw [keysL_len', h.hl])
theorem Pl.vals (h : Pl w0 wr g n L nL Ak ck Av cv) : ∃ gv, Sv wr Av cv gv (ivs (valsL L)) := sv_of h.vr (by rw [valsL_len', h.hl])
theorem Pl.place (h : Pl w0 wr g n L nL Ak ck Av cv) (hn : n ≤ 100) (x : ByteArray) (pk : Nat) (pb : Bool) (hp : lplace x (keysL L) = (pk, pb)) : Calls Try.prog 10 #[.slice Ak nL ck, .string x] wr fun e w' => e = .returned (.tuple #[.int .i64 (pk : Int), .bool pb]) ∧ Below wr.heap.size wr w' := by
  obtain ⟨gk, hk⟩ := h.keys
  have := place_any wr Ak ck gk (keysL L) (sl_of hk) (by rw [keysL_len]; have := h.len; omega) x (pk, pb) hp
  rw [keysL_len, h.hl] at this
  exact this
/-- Behind a put or a take: the map is another, the rows are as they were. -/
theorem Pl.rows (h : Pl w0 wr g n L nL Ak ck Av cv) (hk : OI.Ko wr w' g) : w'.ownsRow w0.heap.size 9 1 (.slice Ak nL ck) nL (svs (keysL L)) ∧ w'.ownsRow w0.heap.size 2 1 (.slice Av nL cv) nL (ivs (valsL L)) ∧ Below w0.heap.size w0 w' := by
  obtain ⟨p, hb⟩ := h.om.box
  exact ⟨row_ko h.kr hb (by decide) hk, row_ko h.vr hb (by decide) hk, h.bel.trans (hk.below h.ge h.bel.size)⟩
end
theorem row2_set {w : World} {B g n cap : Nat} {vs : List Value} (h : w.ownsRow B 2 1 (.slice (some ⟨g, 0, none⟩) n cap) n vs) (j : Nat) (u : Value) : (w.setCell ⟨g, j, none⟩ u).ownsRow B 2 1 (.slice (some ⟨g, 0, none⟩) n cap) n (vs.set j u) := by
  obtain ⟨h0, ⟨h3, _⟩ | ⟨b, c, cur, e1, e2, e3, e4, e5, e6, e7⟩⟩ := h
  · cases h3
  · injection e1 with e1a _ e1c
    injection e1a with e1b
    injection e1b with e1d
    subst e1d e1c
    refine ⟨by rw [List.length_set]; exact h0, .inr ⟨g, cap, cur.setIfInBounds j u, rfl, e2, ?_, e4, e5, by simpa using e6, ?_⟩⟩
    · simp [World.setCell, Array.getElem?_modify, e3]
    · rw [Array.toList_setIfInBounds, ← e7]
      simp [List.take_set]
theorem cutk_to (A : Option Addr) (n cap k : Nat) (hk : k ≤ cap) (W : World) : (Instr.sliceAt 27 (.slice A n cap) none (some (.int .i64 (k : Int))) none).run Try.prog W = .ok (.slice A k cap) W := by
  rw [run_sliceAt_slice W 27 _ _ _ _ (by exact Try.underlying27), run_slice_h W 27 _ _ _ (by exact Try.underlying27) _ _ (by omega) (by omega)]
  have e : Try.prog.elem 27 = 9 := by kernel_rfl
  have e2 : (sizeOf 9).run Try.prog W = .ok 1 W := by kernel_rfl
  rw [e, e2]
  simp only [Result.andThen, sliced, Int.toNat_natCast, Nat.zero_mul, Nat.sub_zero]
  congr 2
  by_cases h : cap = 0
  · rw [if_pos h]
  · rw [if_neg h]
    cases A <;> rfl
theorem cutk_from (A : Option Addr) (n cap k : Nat) (z : Int) (hz : z = (k : Int)) (hk : k ≤ n) (W : World) : (Instr.sliceAt 27 (.slice A n cap) (some (.int .i64 z)) none none).run Try.prog W = .ok (.slice (cutA A cap k) (n - k) (cap - k)) W := by
  subst hz
  rw [run_sliceAt_slice W 27 _ _ _ _ (by exact Try.underlying27), run_slice_l W 27 _ _ _ (by exact Try.underlying27) _ _ (by omega) (by omega)]
  have e : Try.prog.elem 27 = 9 := by kernel_rfl
  have e2 : (sizeOf 9).run Try.prog W = .ok 1 W := by kernel_rfl
  rw [e, e2]
  simp only [Result.andThen, sliced, Int.toNat_natCast, Nat.mul_one, cutA]
theorem cutv_to (A : Option Addr) (n cap k : Nat) (hk : k ≤ cap) (W : World) : (Instr.sliceAt 28 (.slice A n cap) none (some (.int .i64 (k : Int))) none).run Try.prog W = .ok (.slice A k cap) W := by
  rw [run_sliceAt_slice W 28 _ _ _ _ (by exact Try.underlying28), run_slice_h W 28 _ _ _ (by exact Try.underlying28) _ _ (by omega) (by omega)]
  have e : Try.prog.elem 28 = 2 := by kernel_rfl
  have e2 : (sizeOf 2).run Try.prog W = .ok 1 W := by kernel_rfl
  rw [e, e2]
  simp only [Result.andThen, sliced, Int.toNat_natCast, Nat.zero_mul, Nat.sub_zero]
  congr 2
  by_cases h : cap = 0
  · rw [if_pos h]
  · rw [if_neg h]
    cases A <;> rfl
theorem cutv_from (A : Option Addr) (n cap k : Nat) (z : Int) (hz : z = (k : Int)) (hk : k ≤ n) (W : World) : (Instr.sliceAt 28 (.slice A n cap) (some (.int .i64 z)) none none).run Try.prog W = .ok (.slice (cutA A cap k) (n - k) (cap - k)) W := by
  subst hz
  rw [run_sliceAt_slice W 28 _ _ _ _ (by exact Try.underlying28), run_slice_l W 28 _ _ _ (by exact Try.underlying28) _ _ (by omega) (by omega)]
  have e : Try.prog.elem 28 = 2 := by kernel_rfl
  have e2 : (sizeOf 2).run Try.prog W = .ok 1 W := by kernel_rfl
  rw [e, e2]
  simp only [Result.andThen, sliced, Int.toNat_natCast, Nat.mul_one, cutA]
end Go.Proofs.Ytmapfbnfcbkjpaa
