/- The registry: maths of names in shards; what stands where. -/
import Derived.Test.YtlfjhbfhnlclpaaOnw
import Derived.Test.YtlfjhbfhnlclpaaWa
import Derived.Test.YtlfjhbfhnlclpaaTw
import Derived.Test.YtlfjhbfhnlclpaaJa
import Derived.Test.YtlfjhbfhnlclpaaJb
namespace Go.Proofs.Ytlfjhbfhnlclpaa
open Go.RowKit
open Go.Lib
set_option linter.unusedVariables false
set_option linter.unusedSimpArgs false
set_option maxRecDepth 100000
abbrev LN := List (ByteArray × Int)
def ptr (g : Nat) : Value := .pointer (some ⟨g, 0, none⟩)
def lkS (s : Int) : List (Int × Nat) → Option Nat
  | [] => none
  | p :: E => if p.1 = s then some p.2 else lkS s E
theorem lk_mem {s : Int} {g : Nat} : ∀ {E : List (Int × Nat)}, lkS s E = some g → (s, g) ∈ E
  | p :: E, h => by
    unfold lkS at h
    split at h
    · rename_i e
      cases h
      rw [← e]
      exact List.mem_cons_self
    · exact List.mem_cons_of_mem _ (lk_mem h)
theorem lk_none {s : Int} : ∀ {E : List (Int × Nat)}, lkS s E = none → ∀ p ∈ E, p.1 ≠ s
  | [], _, p, hp => by cases hp
  | q :: E, h, p, hp => by
    unfold lkS at h
    split at h
    · cases h
    · rename_i e
      rcases List.mem_cons.1 hp with rfl | hp
      · exact e
      · exact lk_none h p hp
theorem lk_of {s : Int} {g : Nat} : ∀ {E : List (Int × Nat)}, (E.map Prod.fst).Nodup → (s, g) ∈ E → lkS s E = some g
  | p :: E, hn, h => by
    rw [List.map_cons, List.nodup_cons] at hn
    unfold lkS
    rcases List.mem_cons.1 h with rfl | h
    · rw [if_pos rfl]
    · rw [if_neg (fun e => hn.1 (by rw [e]; exact List.mem_map.2 ⟨_, h, rfl⟩))]
      exact lk_of hn.2 h
theorem snd_inj : ∀ {E : List (Int × Nat)}, (E.map Prod.snd).Nodup → ∀ {p q : Int × Nat}, p ∈ E → q ∈ E → p.2 = q.2 → p = q
  | a :: E, hn, p, q, hp, hq, e => by
    rw [List.map_cons, List.nodup_cons] at hn
    rcases List.mem_cons.1 hp with rfl | hp'
    · rcases List.mem_cons.1 hq with rfl | hq'
      · rfl
      · exact absurd (List.mem_map.2 ⟨q, hq', e.symm⟩) hn.1
    · rcases List.mem_cons.1 hq with rfl | hq'
      · exact absurd (List.mem_map.2 ⟨p, hp', e⟩) hn.1
      · exact snd_inj hn.2 hp' hq' e
def inS (n s : Int) (q : ByteArray × Int) : Bool := shd n q.1 == s
theorem insL_front {k : ByteArray} {v : Int} : ∀ {A : LN}, (∀ q ∈ A, klt k q.1 = true) → insL k v A = (k, v) :: A
  | [], _ => rfl
  | p :: A, h => by
    unfold insL
    rw [if_pos (h p List.mem_cons_self)]
theorem ins_filter (f : ByteArray → Bool) (k : ByteArray) (v : Int) : ∀ {L : LN}, Srt L → (insL k v L).filter (fun q => f q.1) = if f k = true then insL k v (L.filter (fun q => f q.1)) else L.filter (fun q => f q.1)
  | [], _ => by
    unfold insL
    by_cases h : f k = true <;> simp [h, insL]
  | p :: L, hs => by
    obtain ⟨h1, h2⟩ := List.pairwise_cons.1 hs
    have ih := ins_filter f k v h2
    by_cases hk : klt k p.1 = true
    · have e : insL k v (p :: L) = (k, v) :: p :: L := by unfold insL; rw [if_pos hk]
      rw [e, List.filter_cons]
      by_cases hf : f k = true
      · simp only [hf, if_true]
        rw [insL_front]
        intro q hq
        rcases List.mem_cons.1 (List.mem_filter.1 hq).1 with rfl | hq
        · exact hk
        · exact klt_trans hk (h1 q hq)
      · simp only [hf, if_false]
        simp
    · by_cases he : k = p.1
      · have e : insL k v (p :: L) = (k, v) :: L := by unfold insL; rw [if_neg hk, if_pos he]
        rw [e, List.filter_cons, List.filter_cons]
        by_cases hf : f k = true
        · have hf2 : f p.1 = true := he ▸ hf
          simp only [hf, hf2, if_true]
          unfold insL
          rw [if_neg hk, if_pos he]
        · have hf2 : ¬ f p.1 = true := he ▸ hf
          simp [hf, hf2]
      · have e : ∀ A : LN, insL k v (p :: A) = p :: insL k v A := fun A => by
          conv => lhs; unfold insL
          rw [if_neg hk, if_neg he]
        rw [e, List.filter_cons, List.filter_cons, ih]
        by_cases hf : f k = true
        · by_cases hp : f p.1 = true
          · simp only [hf, hp, if_true]
            rw [e]
          · simp [hf, hp]
        · by_cases hp : f p.1 = true <;> simp [hf, hp]
theorem del_filter (f : (ByteArray × Int) → Bool) (k : ByteArray) (L : LN) : (delL k L).filter f = delL k (L.filter f) := by
  unfold delL
  rw [List.filter_filter, List.filter_filter]
  congr 1
  funext q
  rw [Bool.and_comm]
theorem getL_filter {k : ByteArray} {f : (ByteArray × Int) → Bool} (hf : ∀ q : ByteArray × Int, q.1 = k → f q = true) : ∀ L : LN, getL k (L.filter f) = getL k L
  | [] => rfl
  | p :: L => by
    rw [List.filter_cons, getL_cons]
    by_cases h : k = p.1
    · rw [if_pos (hf p h.symm), getL_cons, if_pos h, if_pos h]
    · rw [if_neg h]
      split
      · rw [getL_cons, if_neg h]; exact getL_filter hf L
      · exact getL_filter hf L
/-- All but some blocks as they were. -/
structure Fx (w w' : World) (S : List Nat) : Prop where
  os : w'.os = w.os
  tape : w'.tape = w.tape
  output : w'.output = w.output
  size : w.heap.size ≤ w'.heap.size
  block : ∀ j, j < w.heap.size → j ∉ S → w'.heap[j]? = w.heap[j]?
theorem Fx.of {w w' : World} {S : List Nat} (h : Below w.heap.size w w') : Fx w w' S := ⟨h.os, h.tape, h.output, h.size, fun j h1 _ => h.block j h1⟩
theorem Fx.refl (w : World) (S : List Nat) : Fx w w S := Fx.of (Below.refl _ _)
theorem Fx.trans {a b c : World} {S T : List Nat} (h : Fx a b S) (k : Fx b c T) (hT : ∀ j ∈ T, j ∈ S ∨ a.heap.size ≤ j) : Fx a c S :=
  ⟨k.os.trans h.os, k.tape.trans h.tape, k.output.trans h.output, Nat.le_trans h.size k.size, fun j h1 h2 => (k.block j (Nat.lt_of_lt_of_le h1 h.size) (fun e => (hT j e).elim h2 (fun e => by omega))).trans (h.block j h1 h2)⟩
theorem Fx.below {w w' : World} {S : List Nat} {B : Nat} (h : Fx w w' S) (hB : B ≤ w.heap.size) (hS : ∀ j ∈ S, B ≤ j) : Below B w w' :=
  ⟨h.os, h.tape, h.output, h.size, fun j hj => h.block j (by omega) (fun e => by have := hS j e; omega)⟩
/-- A registry: its struct at r, its map at M; the shards that a name was ever in, of each the map's box; all names. -/
structure Rgs (w : World) (r M : Nat) (n : Int) (E : List (Int × Nat)) (L : LN) (c : Nat) : Prop where
  box : Blk w r 45 #[.int .i64 n, .map (some M)]
  map : ∃ D, Vm w M D ∧ (∀ s : Int, vl D s = (lkS s E).map ptr) ∧ Maps.size D = E.length
  oms : ∀ p ∈ E, ON.Om w p.2 (L.filter (inS n p.1))
  nd : (E.map Prod.fst).Nodup
  nb : (E.map Prod.snd).Nodup
  cov : ∀ q ∈ L, ∃ g, (shd n q.1, g) ∈ E
  srt : Srt L
  n1 : 1 ≤ n
  n2 : n ≤ 9223372036854775807
  pos : ∀ q ∈ L, 0 ≤ q.2
  el : E.length ≤ c
  ll : L.length ≤ c
  key : ∀ q ∈ L, q.1.size ≤ 40
section
variable {w w' : World} {r M c : Nat} {n : Int} {E : List (Int × Nat)} {L : LN}
def blocks (r M : Nat) (E : List (Int × Nat)) : List Nat := r :: M :: E.map Prod.snd
theorem Rgs.keep (h : Rgs w r M n E L c) (hb : ∀ j ∈ blocks r M E, w'.heap[j]? = w.heap[j]?) (hk : ON.KeepN w w') : Rgs w' r M n E L c := by
  obtain ⟨D, h1, h2, h3⟩ := h.map
  refine { h with box := (hb r (by simp [blocks])).trans h.box, map := ⟨D, h1.off (hb M (by simp [blocks])), h2, h3⟩, oms := fun p hp => (h.oms p hp).keep (hb p.2 ?_) hk }
  unfold blocks
  exact List.mem_cons_of_mem _ (List.mem_cons_of_mem _ (List.mem_map.2 ⟨p, hp, rfl⟩))
theorem Rgs.lts (h : Rgs w r M n E L c) : ∀ j ∈ blocks r M E, j < w.heap.size := fun j hj => by
  unfold blocks at hj
  rcases List.mem_cons.1 hj with rfl | hj
  · exact h.box.lt
  · rcases List.mem_cons.1 hj with rfl | hj
    · obtain ⟨D, h1, _⟩ := h.map
      exact h1.lt
    · obtain ⟨p, hp, rfl⟩ := List.mem_map.1 hj
      exact (h.oms p hp).lt
theorem Rgs.below (h : Rgs w r M n E L c) (hb : Below w.heap.size w w') : Rgs w' r M n E L c := h.keep (fun j hj => hb.block j (h.lts j hj)) (ON.KeepN.of hb)
theorem Rgs.drewN (h : Rgs w r M n E L c) (q : Nat) : Rgs (w.drewN q) r M n E L c := h.keep (fun _ _ => rfl) (fun _ _ x => x)
theorem Rgs.drew (h : Rgs w r M n E L c) : Rgs w.drew r M n E L c := h.keep (fun _ _ => rfl) (fun _ _ x => x)
theorem Rgs.up (h : Rgs w r M n E L c) : Rgs w r M n E L (c + 1) := { h with el := Nat.le_succ_of_le h.el, ll := Nat.le_succ_of_le h.ll }
theorem Rgs.rM (h : Rgs w r M n E L c) : r ≠ M := fun e => by
  obtain ⟨D, ⟨es, clock, h1, _⟩, _⟩ := h.map
  have h2 := h.box
  subst e
  unfold Blk at h2
  rw [h2] at h1
  cases h1
theorem Rgs.rE (h : Rgs w r M n E L c) {p : Int × Nat} (hp : p ∈ E) : r ≠ p.2 ∧ M ≠ p.2 := by
  obtain ⟨q, hq⟩ := (h.oms p hp).box
  refine ⟨fun e => ?_, fun e => ?_⟩
  · have h2 := h.box
    rw [e] at h2
    unfold Blk at h2 hq
    rw [h2] at hq
    cases hq
  · obtain ⟨D, ⟨es, clock, h1, _⟩, _⟩ := h.map
    rw [e] at h1
    unfold Blk at hq
    rw [h1] at hq
    cases hq
/-- What a name's shard holds. -/
theorem Rgs.get (h : Rgs w r M n E L c) (k : ByteArray) : (lkS (shd n k) E = none → getL k L = none) ∧ ∀ g, lkS (shd n k) E = some g → ON.Om w g (L.filter (inS n (shd n k))) ∧ getL k (L.filter (inS n (shd n k))) = getL k L := by
  refine ⟨fun hn => getL_none (fun q hq e => ?_), fun g hg => ⟨h.oms _ (lk_mem hg), getL_filter (fun q e => by unfold inS; rw [e]; simp) L⟩⟩
  obtain ⟨g, hg⟩ := h.cov q hq
  exact lk_none hn _ hg (by rw [e])
/-- A name is put where its shard's map is. -/
theorem Rgs.put (h : Rgs w r M n E L c) {k : ByteArray} {v : Int} {g : Nat} (hv : 0 ≤ v) (hk40 : k.size ≤ 40) (hg : (shd n k, g) ∈ E) (ho : ON.Om w' g (insL k v (L.filter (inS n (shd n k))))) (hk : ON.Ko w w' g) :
    Rgs w' r M n E (insL k v L) (c + 1) ∧ Fx w w' (M :: E.map Prod.snd) ∧ ON.KeepN w w' := by
  obtain ⟨q, hb⟩ := (h.oms _ hg).box
  have hkn : ON.KeepN w w' := hk.keepN hb (by decide)
  obtain ⟨D, h1, h2, h3⟩ := h.map
  refine ⟨⟨?_, ⟨D, ?_, h2, h3⟩, fun p hp => ?_, h.nd, h.nb, fun q hq => ?_, h.srt.ins, h.n1, h.n2, fun q hq => ?_, Nat.le_succ_of_le h.el, ?_, fun q hq => ?_⟩, ⟨hk.os, hk.tape, hk.output, hk.size, fun j hj hS => hk.block j hj (fun e => hS (by rw [e]; exact List.mem_cons_of_mem _ (List.mem_map.2 ⟨_, hg, rfl⟩)))⟩, hkn⟩
  · exact (hk.block r h.box.lt (fun e => (h.rE hg).1 e)).trans h.box
  · exact h1.off (hk.block M h1.lt (fun e => (h.rE hg).2 e))
  · have e := ins_filter (fun x => shd n x == p.1) k v h.srt
    have e2 : inS n p.1 = fun q => shd n q.1 == p.1 := rfl
    rw [e2, e]
    by_cases hs : p.1 = shd n k
    · have hpg : p.2 = g := by
        have a1 := lk_of h.nd hg
        have a2 := lk_of h.nd (show (p.1, p.2) ∈ E from hp)
        rw [hs, a1] at a2
        exact (Option.some.inj a2).symm
      rw [hs, if_pos (by simp), hpg]
      exact ho
    · rw [if_neg (by simpa using fun e => hs e.symm)]
      refine (h.oms p hp).keep (hk.block p.2 (h.oms p hp).lt (fun e => hs ?_)) hkn
      exact congrArg Prod.fst (snd_inj h.nb hp hg e)
  · rcases insL_mem hq with rfl | hq
    · exact ⟨g, hg⟩
    · exact h.cov q hq
  · rcases insL_mem hq with rfl | hq
    · exact hv
    · exact h.pos q hq
  · rw [insL_len h.srt]
    have := h.ll
    split <;> omega
  · rcases insL_mem hq with rfl | hq
    · exact hk40
    · exact h.key q hq
/-- A name is taken away. -/
theorem Rgs.del (h : Rgs w r M n E L c) {k : ByteArray} {g : Nat} (hg : (shd n k, g) ∈ E) (ho : ON.Om w' g (delL k (L.filter (inS n (shd n k))))) (hk : ON.Ko w w' g) :
    Rgs w' r M n E (delL k L) c ∧ Fx w w' (M :: E.map Prod.snd) ∧ ON.KeepN w w' := by
  obtain ⟨q, hb⟩ := (h.oms _ hg).box
  have hkn : ON.KeepN w w' := hk.keepN hb (by decide)
  obtain ⟨D, h1, h2, h3⟩ := h.map
  refine ⟨⟨?_, ⟨D, ?_, h2, h3⟩, fun p hp => ?_, h.nd, h.nb, fun q hq => h.cov q (delL_sub.subset hq), h.srt.del k, h.n1, h.n2, fun q hq => h.pos q (delL_sub.subset hq), h.el, Nat.le_trans delL_sub.length_le h.ll, fun q hq => h.key q (delL_sub.subset hq)⟩, ⟨hk.os, hk.tape, hk.output, hk.size, fun j hj hS => hk.block j hj (fun e => hS (by rw [e]; exact List.mem_cons_of_mem _ (List.mem_map.2 ⟨_, hg, rfl⟩)))⟩, hkn⟩
  · exact (hk.block r h.box.lt (fun e => (h.rE hg).1 e)).trans h.box
  · exact h1.off (hk.block M h1.lt (fun e => (h.rE hg).2 e))
  · rw [del_filter]
    by_cases hs : p.1 = shd n k
    · have hpg : p.2 = g := by
        have a1 := lk_of h.nd hg
        have a2 := lk_of h.nd (show (p.1, p.2) ∈ E from hp)
        rw [hs, a1] at a2
        exact (Option.some.inj a2).symm
      rw [hs, hpg]
      exact ho
    · have e3 : delL k (L.filter (inS n p.1)) = L.filter (inS n p.1) := delL_id (fun q hq e => hs (by
        have := (List.mem_filter.1 hq).2
        unfold inS at this
        rw [e] at this
        exact (beq_iff_eq.1 this).symm))
      rw [e3]
      refine (h.oms p hp).keep (hk.block p.2 (h.oms p hp).lt (fun e => hs ?_)) hkn
      exact congrArg Prod.fst (snd_inj h.nb hp hg e)
/-- A shard is opened. -/
theorem Rgs.open' (h : Rgs w r M n E L c) {s : Int} {g : Nat} {w1 : World} (hs : lkS s E = none) (ho : ON.Om w1 g []) (hb1 : Below w.heap.size w w1) (hg : w.heap.size ≤ g) {D' : VD} (hm : Vm w' M D') (hD' : ∀ D, Vm w1 M D → D' = D.put (.int .i64 s) (.held (ptr g))) (hgr : w1.grownBy w' (some M)) :
    Rgs w' r M n ((s, g) :: E) L (c + 1) ∧ Fx w w' (M :: E.map Prod.snd) ∧ ON.KeepN w w' := by
  have h1 := h.below hb1
  obtain ⟨D, m1, m2, m3⟩ := h1.map
  obtain rfl := hD' D m1
  have hkn1 : ON.KeepN w1 w' := fun b cs x => (hgr.block b x.lt (fun e => by
    cases e
    obtain ⟨es, clock, mb, _⟩ := m1
    unfold Blk at x
    rw [mb] at x
    cases x)).trans x
  have hkn : ON.KeepN w w' := (ON.KeepN.of hb1).trans hkn1
  have hgl := ho.lt
  have hgM : g ≠ M := fun e => by
    obtain ⟨D0, m0, _⟩ := h.map
    have := m0.lt
    omega
  have hnot : ∀ q ∈ L, inS n s q = false := fun q hq => by
    obtain ⟨g', hg'⟩ := h.cov q hq
    unfold inS
    have := lk_none hs _ hg'
    simpa using this
  refine ⟨⟨?_, ⟨_, hm, fun x => ?_, ?_⟩, fun p hp => ?_, ?_, ?_, fun q hq => ?_, h.srt, h.n1, h.n2, h.pos, ?_, Nat.le_succ_of_le h.ll, h.key⟩, ⟨hgr.os.trans hb1.os, hgr.tape.trans hb1.tape, hgr.output.trans hb1.output, Nat.le_trans hb1.size hgr.size, fun j hj hS => ?_⟩, hkn⟩
  · exact (hgr.block r h1.box.lt (fun e => h.rM (Option.some.inj e))).trans h1.box
  · by_cases e : x = s
    · subst e
      rw [vl_put m1.vd.tidy.isMap]
      unfold lkS
      rw [if_pos rfl]
      rfl
    · rw [vl_put_ne e, m2]
      conv => rhs; unfold lkS
      rw [if_neg (fun h => e h.symm)]
  · rw [m1.vd.size_put, m2, hs, m3]
    rfl
  · rcases List.mem_cons.1 hp with rfl | hp
    · have e : L.filter (inS n s) = [] := List.filter_eq_nil_iff.2 (fun q hq => by rw [hnot q hq]; simp)
      rw [e]
      exact ho.keep (hgr.block g hgl (fun e => hgM (Option.some.inj e))) hkn1
    · exact (h1.oms p hp).keep (hgr.block p.2 (h1.oms p hp).lt (fun e => (h1.rE hp).2 (Option.some.inj e).symm)) hkn1
  · rw [List.map_cons, List.nodup_cons]
    refine ⟨fun hm => ?_, h.nd⟩
    obtain ⟨p, hp, e⟩ := List.mem_map.1 hm
    exact lk_none hs p hp e
  · rw [List.map_cons, List.nodup_cons]
    refine ⟨fun hm => ?_, h.nb⟩
    obtain ⟨p, hp, e⟩ := List.mem_map.1 hm
    have := (h.oms p hp).lt
    simp only at e
    omega
  · obtain ⟨g', hg'⟩ := h.cov q hq
    exact ⟨g', List.mem_cons_of_mem _ hg'⟩
  · have := h.el
    simp only [List.length_cons]
    omega
  · exact (hgr.block j (Nat.lt_of_lt_of_le hj hb1.size) (fun e => hS (by rw [Option.some.inj e]; exact List.mem_cons_self))).trans (hb1.block j hj)
end
end Go.Proofs.Ytlfjhbfhnlclpaa
