/- OmapWalks: what its ranges build. -/
import Derived.Test.YtmapfbnfcbkjpaaLh
import Derived.Test.YtmapfbnfcbkjpaaWa
import Derived.Test.YtmapfbnfcbkjpaaTw
import Derived.Deep.RegionHeld3
namespace Go.Proofs.Ytmapfbnfcbkjpaa
open Go.RowKit
open Go.Lib
set_option linter.unusedVariables false
set_option linter.unusedSimpArgs false
set_option maxRecDepth 100000
/-- A map of few, short keys. -/
structure Pm (w0 w : World) (g k : Nat) (L : LI) : Prop where
  om : OI.Om w g L
  bel : Below w0.heap.size w0 w
  ge : w0.heap.size ≤ g
  len : L.length ≤ k
  key : ∀ q ∈ L, q.1.size ≤ 40
theorem Pm.put {w0 w w' : World} {g k : Nat} {L : LI} {x : ByteArray} {v : Int} (h : Pm w0 w g k L) (hk : x.size ≤ 40) (ho : OI.Om w' g (insL x v L)) (hb : OI.Ko w w' g) : Pm w0 w' g (k + 1) (insL x v L) := by
  refine ⟨ho, h.bel.trans (hb.below h.ge h.bel.size), h.ge, ?_, fun q hq => ?_⟩
  · rw [insL_len h.om.srt]
    have := h.len
    split <;> omega
  · rcases insL_mem hq with rfl | hq
    · exact hk
    · exact h.key q hq
theorem Pm.del {w0 w w' : World} {g k : Nat} {L : LI} {x : ByteArray} (h : Pm w0 w g k L) (ho : OI.Om w' g (delL x L)) (hb : OI.Ko w w' g) : Pm w0 w' g (k + 1) (delL x L) := by
  refine ⟨ho, h.bel.trans (hb.below h.ge h.bel.size), h.ge, ?_, fun q hq => h.key q (delL_sub.subset hq)⟩
  have := delL_sub (k := x) (L := L) |>.length_le
  have := h.len
  omega
theorem info9s : (Try.prog.info? 9).map (fun i => (i.zero, i.size, i.bytes)) = some (some (.string .empty), 1, 16) := by kernel_rfl
theorem info2s : (Try.prog.info? 2).map (fun i => (i.zero, i.size, i.bytes)) = some (some (.int .i64 0), 1, 8) := by kernel_rfl
/-- Two boxes with rows of their own, beside each other: the keys, and what is there. -/
structure Wv (Ws W0 W : World) (Ba Bv : Nat) (a v a' v' : Value) (n m : Nat) (l : List ByteArray) (xs : List Int) : Prop where
  ba : Blk W Ba 27 #[a]
  bv : Blk W Bv 28 #[v]
  ra : W.ownsRow W0.heap.size 9 1 a' n (svs l)
  rv : W.ownsRow W0.heap.size 2 1 v' m (ivs xs)
  tw : Tw W0 W Ba Bv
  kn : OI.KeepN Ws W
  ko : KeepsOthers Ws W
section
variable {Ws W0 W W' : World} {Ba Bv n m : Nat} {a v a' v' : Value} {l : List ByteArray} {xs : List Int}
theorem Wv.drew (h : Wv Ws W0 W Ba Bv a v a' v' n m l xs) : Wv Ws W0 W.drew Ba Bv a v a' v' n m l xs := ⟨h.ba, h.bv, row_drew h.ra, row_drew h.rv, h.tw.drew, h.kn.trans (OI.KeepN.drew _), h.ko.trans (KeepsOthers.drew _)⟩
theorem Wv.alloc (h : Wv Ws W0 W Ba Bv a v a' v' n m l xs) (o : Obj) : Wv Ws W0 (W.alloc o) Ba Bv a v a' v' n m l xs :=
  ⟨h.ba.alloc o, h.bv.alloc o, row_alloc h.ra o, row_alloc h.rv o, h.tw.alloc o, h.kn.trans (OI.KeepN.of ((Below.refl _ W).alloc (Nat.le_refl _) o)), h.ko.trans (KeepsOthers.alloc _ o)⟩
theorem keeps_row {base k n : Nat} {e : TypeId} {u : Value} {zs : List Value} (h : W.ownsRow base e k u n zs) (hg : W.grownBy W' u.ownBlock) : KeepsOthers W W' := KeepsOthers.of_grownBy hg (fun r o e ho => by
  rcases h.2 with ⟨rfl, _⟩ | ⟨b, cp, cur, rfl, _, hgb, _⟩
  · cases e
  · cases e
    rw [hgb] at ho
    cases ho
    rfl)
theorem row_past {base base' k k' n n' : Nat} {e e' : TypeId} {u u' : Value} {zs zs' : List Value} (h : W.ownsRow base e k u n zs) (h' : W.ownsRow base' e' k' u' n' zs') (hne : e ≠ e') (hg : W.grownBy W' u'.ownBlock) : W'.ownsRow base e k u n zs := row_ty h (fun j cur hj hb => hg.block j hb.lt (fun eq => by
  rcases h'.2 with ⟨rfl, _⟩ | ⟨b, cp, cur', rfl, _, hgb, _⟩
  · cases eq
  · cases eq
    unfold Blk at hb
    rw [hgb] at hb
    cases hb
    exact hne rfl))
theorem Wv.pushA (h : Wv Ws W0 W Ba Bv a v a' v' n m l xs) {u : Value} {x : ByteArray} (hr : W'.ownsRow W0.heap.size 9 1 u (n + 1) (svs (l ++ [x]))) (hg : W.grownBy W' a'.ownBlock) : Wv Ws W0 W' Ba Bv a v u v' (n + 1) m (l ++ [x]) xs :=
  ⟨blk_row h.ba h.ra (by decide) hg, blk_row h.bv h.ra (by decide) hg, hr, row_past h.rv h.ra (by decide) hg, tw_own h.tw hg (fun r e => (h.ra.lt r e).1), h.kn.trans (OI.KeepN.grown h.ra (by decide) hg), h.ko.trans (keeps_row h.ra hg)⟩
theorem Wv.pushV (h : Wv Ws W0 W Ba Bv a v a' v' n m l xs) {u : Value} {x : Int} (hr : W'.ownsRow W0.heap.size 2 1 u (m + 1) (ivs (xs ++ [x]))) (hg : W.grownBy W' v'.ownBlock) : Wv Ws W0 W' Ba Bv a v a' u n (m + 1) l (xs ++ [x]) :=
  ⟨blk_row h.ba h.rv (by decide) hg, blk_row h.bv h.rv (by decide) hg, row_past h.ra h.rv (by decide) hg, hr, tw_own h.tw hg (fun r e => (h.rv.lt r e).1), h.kn.trans (OI.KeepN.grown h.rv (by decide) hg), h.ko.trans (keeps_row h.rv hg)⟩
theorem Wv.ne (h : Wv Ws W0 W Ba Bv a v a' v' n m l xs) : Ba ≠ Bv := fun e => by
  have h1 := h.ba
  have h2 := h.bv
  subst e
  unfold Blk at h1 h2
  rw [h1] at h2
  cases h2
theorem row_set {base k n B : Nat} {e t : TypeId} {u w : Value} {cs : Array Value} {zs : List Value} (h : W.ownsRow base e k u n zs) (hb : Blk W B t cs) (hne : t ≠ e) : (W.setCell ⟨B, 0, none⟩ w).ownsRow base e k u n zs := row_ty h (fun j cur hj hc => Below.heap_setCell _ _ _ _ (fun eq => by
  have eq : j = B := eq
  subst eq
  unfold Blk at hb hc
  rw [hb] at hc
  cases hc
  exact hne rfl))
theorem Wv.setA (h : Wv Ws W0 W Ba Bv a v a' v' n m l xs) : Wv Ws W0 (W.setCell ⟨Ba, 0, none⟩ a') Ba Bv a' v a' v' n m l xs :=
  ⟨h.ba.set_ 0 a', h.bv.far (fun e => h.ne e.symm) _, row_set h.ra h.ba (by decide), row_set h.rv h.ba (by decide), h.tw.setCell (.inl rfl) _, h.kn.trans (OI.KeepN.set h.ba (by decide) 0 _), h.ko.trans (KeepsOthers.setCell _ _ _)⟩
theorem Wv.setV (h : Wv Ws W0 W Ba Bv a v a' v' n m l xs) : Wv Ws W0 (W.setCell ⟨Bv, 0, none⟩ v') Ba Bv a v' a' v' n m l xs :=
  ⟨h.ba.far h.ne _, h.bv.set_ 0 v', row_set h.ra h.bv (by decide), row_set h.rv h.bv (by decide), h.tw.setCell (.inr (.inl rfl)) _, h.kn.trans (OI.KeepN.set h.bv (by decide) 0 _), h.ko.trans (KeepsOthers.setCell _ _ _)⟩
theorem Wv.own {A B : World} {row : Option Nat} (h : Wv A W0 A Ba Bv a v a' v' n m l xs) (hg : A.grownBy B row) (hr : ∀ r, row = some r → W0.heap.size ≤ r ∧ ∃ o : Obj, A.heap[r]? = some o ∧ o.isCells = false) : Wv B W0 B Ba Bv a v a' v' n m l xs :=
  ⟨blk_own h.ba hg (fun r e => (hr r e).2), blk_own h.bv hg (fun r e => (hr r e).2), row_own h.ra hg (fun r e => (hr r e).2), row_own h.rv hg (fun r e => (hr r e).2), tw_own h.tw hg (fun r e => (hr r e).1), OI.KeepN.refl _, KeepsOthers.refl _⟩
theorem Wv.here (h : Wv Ws W0 W Ba Bv a v a' v' n m l xs) : Wv W W0 W Ba Bv a v a' v' n m l xs := { h with kn := OI.KeepN.refl _, ko := KeepsOthers.refl _ }
end
section
variable {W : World} {ops : Array Oper} {o : Oper} {a : Act} {K : Act → World → Prop} {Q : Exit → Act → World → Prop} {E : Prop}
theorem step_pushA {base : Nat} (hgd : o.guard = none) (s x : Operand) (ho : o.op = .call { callee := .builtin .append, args := #[s, x], argTypes := #[27, 27] }) {v : Value} {n : Nat} {l : List ByteArray} (hs : a.eval s = v) (hown : W.ownsRow base 9 1 v n (svs l)) (u : ByteArray) (gx : Nat)
    (hx : a.eval x = .slice (some ⟨gx, 0, none⟩) 1 1) (hc : Blk W gx 9 #[.string u]) (hn : n ≤ 1000) (hb : base ≤ W.heap.size)
    (h : ∀ g cap w', w'.ownsRow base 9 1 (.slice (some ⟨g, 0, none⟩) (n + 1) cap) (n + 1) (svs (l ++ [u])) → W.grownBy w' v.ownBlock → K (a.put o.dst (.slice (some ⟨g, 0, none⟩) (n + 1) cap)) w') :
    if Region.wanted o (yielded ops a.tmps) = true then Oper.wp Try.prog o a W K Q else E := by
  obtain ⟨i0, hi, hz0, hz1, hz2⟩ := info_parts info9s
  refine step_append_lies W hgd s x 27 ho base 9 i0 (.string .empty) 1 16 Try.underlying27 hi hz0 hz1 hz2 rfl (by decide) v n (svs l) hs hown ⟨gx, 0, none⟩ 1 1 [.string u] hx rfl (World.news_of_block hc) (by simp [Value.oneCell']) (by decide) (by unfold maxLen; omega) (by omega) hb _ rfl ?_
  intro g cap w' h1 h2 _ _
  exact h g cap w' (by unfold svs at *; rw [List.map_append]; exact h1) h2
theorem step_pushV {base : Nat} (hgd : o.guard = none) (s x : Operand) (ho : o.op = .call { callee := .builtin .append, args := #[s, x], argTypes := #[28, 28] }) {v : Value} {n : Nat} {l : List Int} (hs : a.eval s = v) (hown : W.ownsRow base 2 1 v n (ivs l)) (u : Int) (gx : Nat)
    (hx : a.eval x = .slice (some ⟨gx, 0, none⟩) 1 1) (hc : Blk W gx 2 #[.int .i64 u]) (hn : n ≤ 1000) (hb : base ≤ W.heap.size)
    (h : ∀ g cap w', w'.ownsRow base 2 1 (.slice (some ⟨g, 0, none⟩) (n + 1) cap) (n + 1) (ivs (l ++ [u])) → W.grownBy w' v.ownBlock → K (a.put o.dst (.slice (some ⟨g, 0, none⟩) (n + 1) cap)) w') :
    if Region.wanted o (yielded ops a.tmps) = true then Oper.wp Try.prog o a W K Q else E := by
  obtain ⟨i0, hi, hz0, hz1, hz2⟩ := info_parts info2s
  refine step_append_lies W hgd s x 28 ho base 2 i0 (.int .i64 0) 1 8 Try.underlying28 hi hz0 hz1 hz2 rfl (by decide) v n (ivs l) hs hown ⟨gx, 0, none⟩ 1 1 [.int .i64 u] hx rfl (World.news_of_block hc) (by simp [Value.oneCell']) (by decide) (by unfold maxLen; omega) (by omega) hb _ rfl ?_
  intro g cap w' h1 h2 _ _
  exact h g cap w' (by unfold ivs at *; rw [List.map_append]; exact h1) h2
end
/-- The keys that begin with a text, and what else the check counts. -/
theorem filt_succ {α : Type} {L : List α} {i : Nat} {q : α} (p : α → Bool) (h : L[i]? = some q) : (L.take (i + 1)).filter p = (L.take i).filter p ++ (if p q = true then [q] else []) := by
  rw [List.take_add_one, h, List.filter_append]
  simp only [Option.toList_some, List.filter_cons, List.filter_nil]
theorem filt_at {α : Type} {L : List α} {i : Nat} {q : α} (p : α → Bool) (h : L[i]? = some q) (hp : p q = true) : (L.filter p)[((L.take i).filter p).length]? = some q := by
  have e : L.filter p = (L.take (i + 1)).filter p ++ (L.drop (i + 1)).filter p := by rw [← List.filter_append, List.take_append_drop]
  rw [e, filt_succ p h, if_pos hp, List.append_assoc, List.getElem?_append_right (Nat.le_refl _), Nat.sub_self]
  rfl
theorem filt_le {α : Type} (L : List α) (i : Nat) (p : α → Bool) : ((L.take i).filter p).length ≤ (L.filter p).length := ((List.take_sublist i L).filter p).length_le
theorem under_done {pre U : LI} {N : Nat} {st : Int} (hn : U.length = N) (hp : pre <+: U) (h : ((pre.length : Nat) : Int) ≤ max st 0) (hx : pre.length = N ∨ st ≤ ((pre.length : Nat) : Int)) : keysL pre = (keysL U).take (min N st.toNat) ∧ pre.length = min N st.toNat := by
  have hl := hp.length_le
  rw [hn] at hl
  have hm : pre.length = min N st.toNat := by omega
  refine ⟨?_, hm⟩
  rw [← hm]
  unfold keysL
  rw [← List.map_take, ← List.prefix_iff_eq_take.1 hp]
theorem preB_not {p k : ByteArray} (h : preB p k = false) (hs : ¬ k.size < p.size) : ((k.extract 0 p.size).toList == p.toList) = false := by
  unfold preB at h
  rw [decide_eq_true (by omega), Bool.true_and] at h
  exact h
theorem preB_yes {p k : ByteArray} (h : preB p k = true) : p.size ≤ k.size ∧ ((k.extract 0 p.size).toList == p.toList) = true := by
  unfold preB at h
  rw [Bool.and_eq_true, decide_eq_true_eq] at h
  exact h
theorem om_stops (n Bm Bx g : Nat) (L U : LI) (px : ByteArray) (hpx : px.size ≤ 1000000) (w : World) (hBm : Blk w Bm 25 #[.pointer (some ⟨g, 0, none⟩)]) (hBx : Blk w Bx 9 #[.string px]) (hM : OI.Om w g L) (hks : ∀ q ∈ L, q.1.size ≤ 1000000) (hU : L.filter (fun q => preB px q.1) = U) :
    SeqStopsK Fence.wide n Try.prog 33 #[.pointer (some ⟨Bm, 0, none⟩), .pointer (some ⟨Bx, 0, none⟩)] OI.enI OI.KeepN (fun ys => ys = U) (fun pre => pre <+: U) U.length w := by
  obtain ⟨t, hM, rfl, hS⟩ := hM
  rw [← Tr.und_filter px hS] at hU
  subst hU
  exact OI.und_stops n Bm Bx g t px hpx w hBm.lt hBx.lt (hBm.cell 0) (hBx.cell 0) hM hks
theorem filt_empty (L : LI) : L.filter (fun q => preB .empty q.1) = L := List.filter_eq_self.2 (fun q _ => preB_empty q.1)
theorem om_tw {w w' : World} {g R s : Nat} {L : LI} (h : OI.Om w g L) (ht : Tw w w' R s) (hk : OI.KeepN w w') (h1 : g ≠ R) (h2 : g ≠ s) : OI.Om w' g L := h.keep (ht.block g h.lt h1 h2) hk
theorem one_push {W W4 w2 : World} {B n : Nat} {u u' : Value} {l : List ByteArray} {x : ByteArray} (hb : Blk W B 27 #[u]) (hr : W.ownsRow W4.heap.size 9 1 u n (svs l)) (ht : Tw W4 W B B) (c : Obj) (hg : (W.alloc c).grownBy w2 u.ownBlock) (ho : w2.ownsRow W4.heap.size 9 1 u' (n + 1) (svs (l ++ [x]))) :
    Blk w2 B 27 #[u] ∧ (Blk (w2.setCell ⟨B, 0, none⟩ u') B 27 #[u'] ∧ (w2.setCell ⟨B, 0, none⟩ u').ownsRow W4.heap.size 9 1 u' (n + 1) (svs (l ++ [x])) ∧ Tw W4 (w2.setCell ⟨B, 0, none⟩ u') B B ∧ OI.KeepN W (w2.setCell ⟨B, 0, none⟩ u') ∧ KeepsOthers W (w2.setCell ⟨B, 0, none⟩ u')) := by
  have hb2 : Blk w2 B 27 #[u] := blk_row (hb.alloc c) (row_alloc hr c) (by decide) hg
  refine ⟨hb2, hb2.set_ 0 u', row_set ho hb2 (by decide), ?_, ?_, ?_⟩
  · exact (tw_own (ht.alloc c) hg (fun r e => (hr.lt r e).1)).setCell (.inl rfl) _
  · exact ((OI.KeepN.of ((Below.refl _ W).alloc (Nat.le_refl _) c)).trans (OI.KeepN.grown (row_alloc hr c) (by decide) hg)).trans (OI.KeepN.set hb2 (by decide) 0 _)
  · exact (KeepsOthers.alloc W c).trans ((keeps_row (row_alloc hr c) hg).trans (KeepsOthers.setCell _ _ _))
theorem sl_at {w : World} {B n : Nat} {V : Value} {l : List ByteArray} (h : w.ownsRow B 9 1 V n (svs l)) (hl : l.length = n) : ∃ A cap g, V = .slice A n cap ∧ Sl w A cap g l := by
  subst hl
  exact sl_row h
theorem iv_at {w : World} {B n : Nat} {V : Value} {l : List Int} (h : w.ownsRow B 2 1 V n (ivs l)) (hl : l.length = n) : ∃ A cap g, V = .slice A n cap ∧ ∀ (j : Nat) (x : Int), l[j]? = some x → A = some ⟨g, 0, none⟩ ∧ g < w.heap.size ∧ w.cell? ⟨g, j, none⟩ = some (.int .i64 x) := by
  subst hl
  rw [← ivs_len l] at h
  obtain ⟨A, cap, g, e, h2⟩ := sv_row h
  rw [ivs_len] at e
  exact ⟨A, cap, g, e, fun j x hj => h2.2 j (.int .i64 x) (by unfold ivs; rw [List.getElem?_map, hj]; rfl)⟩
theorem keepN_own {A B : World} {row : Option Nat} (hg : A.grownBy B row) (hr : ∀ r, row = some r → ∃ o : Obj, A.heap[r]? = some o ∧ o.isCells = false) : OI.KeepN A B := fun b cs h => blk_own h hg hr
theorem some_own {W4 A B : World} {row : Option Nat} {Bs n : Nat} {l : List Value} (h : (∃ u, Blk A Bs 27 #[u] ∧ A.ownsRow W4.heap.size 9 1 u n l) ∧ Tw W4 A Bs Bs ∧ OI.KeepN W4 A) (hg : A.grownBy B row) (hr : ∀ r, row = some r → W4.heap.size ≤ r ∧ ∃ o : Obj, A.heap[r]? = some o ∧ o.isCells = false) :
    (∃ u, Blk B Bs 27 #[u] ∧ B.ownsRow W4.heap.size 9 1 u n l) ∧ Tw W4 B Bs Bs ∧ OI.KeepN W4 B := by
  obtain ⟨⟨u, h1, h2⟩, h3, h4⟩ := h
  exact ⟨⟨u, blk_own h1 hg (fun r e => (hr r e).2), row_own h2 hg (fun r e => (hr r e).2)⟩, tw_own h3 hg (fun r e => (hr r e).1), h4.trans (keepN_own hg (fun r e => (hr r e).2))⟩
end Go.Proofs.Ytmapfbnfcbkjpaa
