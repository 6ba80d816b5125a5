/- OmapPlays: what each act leaves. -/
import Derived.Test.YtmapfbnfcbkjpaaLh
namespace Go.Proofs.Ytmapfbnfcbkjpaa
open Go.RowKit
open Go.Lib
set_option linter.unusedVariables false
set_option linter.unusedSimpArgs false
set_option maxRecDepth 100000
section
variable {w0 w2 w3 w4 w5 : World} {g n nL ck cv : Nat} {L : LI} {Ak Av : Option Addr} {x : ByteArray} {v : Int} {pk : Nat}
theorem insL_key40 (h : ∀ q ∈ L, q.1.size ≤ 40) (hx : x.size ≤ 40) : ∀ q ∈ insL x v L, q.1.size ≤ 40 := fun q hq => by
  rcases insL_mem hq with rfl | hq
  · exact hx
  · exact h q hq
theorem row_blk {w : World} {B gv m cap : Nat} {e : TypeId} {vs : List Value} (h : w.ownsRow B e 1 (.slice (some ⟨gv, 0, none⟩) m cap) m vs) : ∃ cur, Blk w gv e cur ∧ B ≤ gv := by
  obtain ⟨h0, ⟨h3, _⟩ | ⟨b, c, cur, e1, e2, e3, _⟩⟩ := h
  · cases h3
  · injection e1 with e1a _ _
    injection e1a with e1b
    injection e1b with e1d
    subst e1d
    exact ⟨cur, e3, e2⟩
theorem Pl.some_at (h : Pl w0 w2 g n L nL Ak ck Av cv) (hp : lplace x (keysL L) = (pk, true)) : ∃ u, L[pk]? = some (x, u) ∧ pk < nL := by
  have h1 := (lplace_all (x := x) 0 h.om.srt).1
  rw [hp] at h1
  obtain ⟨u, hu⟩ := h1 rfl
  exact ⟨u, hu, by have := (List.getElem?_eq_some_iff.1 hu).1; rw [h.hl] at this; exact this⟩
theorem Pl.isSome (h : Pl w0 w2 g n L nL Ak ck Av cv) {pb : Bool} (hp : lplace x (keysL L) = (pk, pb)) : (getL x L).isSome = pb := by
  have h4 := (lplace_all (x := x) 0 h.om.srt).2.2.2.1
  have h1 := (lplace_all (x := x) 0 h.om.srt).1
  rw [hp] at h4 h1
  cases pb with
  | true =>
    obtain ⟨u, hu⟩ := h1 rfl
    simp only at hu
    rw [h4]
    simp [hu]
  | false => rw [h4]; rfl
/-- What is there, and where. -/
theorem Pl.get_at (h : Pl w0 w2 g n L nL Ak ck Av cv) (hp : lplace x (keysL L) = (pk, true)) : ∃ u gv, getL x L = some u ∧ pk < nL ∧ Av = some ⟨gv, 0, none⟩ ∧ w2.cell? ⟨gv, pk, none⟩ = some (.int .i64 u) ∧ nL ≤ cv := by
  obtain ⟨u, hu, hlt⟩ := h.some_at hp
  obtain ⟨gv, hv⟩ := h.vals
  obtain ⟨e, _, hc⟩ := hv.2 pk (.int .i64 u) (by unfold ivs valsL; rw [List.getElem?_map, List.getElem?_map, hu]; rfl)
  have h4 := (lplace_all (x := x) 0 h.om.srt).2.2.2.1
  rw [hp] at h4
  simp only [if_true, hu, Option.map_some] at h4
  have := hv.1
  rw [valsL_len', h.hl] at this
  exact ⟨u, gv, h4, hlt, e, hc, this⟩
theorem Pl.get_no (h : Pl w0 w2 g n L nL Ak ck Av cv) (hp : lplace x (keysL L) = (pk, false)) : getL x L = none := by
  have h4 := (lplace_all (x := x) 0 h.om.srt).2.2.2.1
  rw [hp] at h4
  exact h4
theorem Pl.plc_at (h : Pl w0 w2 g n L nL Ak ck Av cv) {pb : Bool} (hp : lplace x (keysL L) = (pk, pb)) : plc x L = pk := by
  have h5 := (lplace_all (x := x) 0 h.om.srt).2.2.2.2
  rw [hp] at h5
  exact h5
theorem Pl.pk_le (h : Pl w0 w2 g n L nL Ak ck Av cv) {pb : Bool} (hp : lplace x (keysL L) = (pk, pb)) : pk ≤ nL := by
  have := lplace_le x (keysL L)
  rw [hp, keysL_len, h.hl] at this
  exact this
/-- A put where something was. -/
theorem Pl.set_case (h : Pl w0 w2 g n L nL Ak ck Av cv) (hp : lplace x (keysL L) = (pk, true)) (hx : x.size ≤ 40) (ho : OI.Om w3 g (insL x v L)) (hk : OI.Ko w2 w3 g) :
    ∃ gv u, Av = some ⟨gv, 0, none⟩ ∧ pk < nL ∧ nL ≤ cv ∧ w3.cell? ⟨gv, pk, none⟩ = some (.int .i64 u) ∧ w3.frozen? ⟨gv, pk, none⟩ = false ∧ Pl w0 (w3.setCell ⟨gv, pk, none⟩ (.int .i64 v)) g (n + 1) (insL x v L) nL Ak ck Av cv ∧ (∀ b cs, Blk w3 b 30 cs → b ≠ gv) := by
  obtain ⟨u, gv, _, hlt, e, _, hle⟩ := h.get_at hp
  obtain ⟨u', hu', _⟩ := h.some_at hp
  subst e
  obtain ⟨r1, r2, r3⟩ := h.rows hk
  obtain ⟨cur, hb, hge⟩ := row_blk r2
  obtain ⟨gv', hv'⟩ := sv_of r2 (by rw [valsL_len', h.hl])
  obtain ⟨e2, _, hc⟩ := hv'.2 pk (.int .i64 u') (by unfold ivs valsL; rw [List.getElem?_map, List.getElem?_map, hu']; rfl)
  cases e2
  have h2 := (lplace_all (x := x) v h.om.srt).2.1
  rw [hp] at h2
  simp only [if_true] at h2
  have hkeys : keysL (insL x v L) = keysL L := by
    rw [h2]
    unfold keysL
    rw [List.map_set]
    refine List.ext_getElem? fun j => ?_
    rw [List.getElem?_set]
    split
    · rename_i e
      subst e
      rw [List.getElem?_map, hu']
      have := (List.getElem?_eq_some_iff.1 hu').1
      simp [this]
    · rfl
  have hvals : valsL (insL x v L) = (valsL L).set pk v := by rw [h2]; unfold valsL; rw [List.map_set]
  obtain ⟨p, hgb⟩ := ho.box
  have hne : g ≠ gv := fun e => by
    subst e
    unfold Blk at hgb hb
    rw [hgb] at hb
    cases hb
  refine ⟨gv, u', rfl, hlt, hle, hc, hb.frozen pk, ⟨ho.keep (Below.heap_setCell w3 ⟨gv, pk, none⟩ _ g hne) (OI.KeepN.set hb (by decide) pk _), ?_, ?_, ?_, r3.setCell (p := ⟨gv, pk, none⟩) hge _, h.ge, ?_, insL_key40 h.key hx⟩, fun b cs hbb e => ?_⟩
  · rw [hkeys]
    refine row_ty r1 (fun j cur' _ hj => Below.heap_setCell w3 ⟨gv, pk, none⟩ _ j (fun e => ?_))
    have e : j = gv := e
    subst e
    unfold Blk at hb hj
    rw [hb] at hj
    cases hj
  · rw [hvals]
    have := row2_set r2 pk (.int .i64 v)
    have e3 : ivs ((valsL L).set pk v) = (ivs (valsL L)).set pk (.int .i64 v) := by unfold ivs; rw [List.map_set]
    rw [e3]
    exact this
  · rw [h2, List.length_set]; exact h.hl
  · rw [h2, List.length_set]; exact Nat.le_succ_of_le h.len
  · subst e
    unfold Blk at hb hbb
    rw [hb] at hbb
    cases hbb
/-- A put where nothing was. -/
theorem Pl.ins_case (h : Pl w0 w2 g n L nL Ak ck Av cv) (hp : lplace x (keysL L) = (pk, false)) (hx : x.size ≤ 40) (ho : OI.Om w3 g (insL x v L)) (hk : OI.Ko w2 w3 g) {V1 V2 : Value} (F1 : Fr w3 w4) (o1 : w4.ownsRow w3.heap.size 9 1 V1 (0 + pk + 1 + (nL - pk)) ([] ++ (svs (keysL L)).take pk ++ [.string x] ++ (svs (keysL L)).drop pk)) (F2 : Fr w4 w5) (o2 : w5.ownsRow w4.heap.size 2 1 V2 (0 + pk + 1 + (nL - pk)) ([] ++ (ivs (valsL L)).take pk ++ [.int .i64 v] ++ (ivs (valsL L)).drop pk)) :
    ∃ A1 c1 A2 c2, V1 = .slice A1 (nL + 1) c1 ∧ V2 = .slice A2 (nL + 1) c2 ∧ Pl w0 w5 g (n + 1) (insL x v L) (nL + 1) A1 c1 A2 c2 := by
  have hpk := h.pk_le hp
  have h2 := (lplace_all (x := x) v h.om.srt).2.1
  rw [hp] at h2
  simp only [Bool.false_eq_true, if_false] at h2
  obtain ⟨r1, r2, r3⟩ := h.rows hk
  have hkeys : svs (keysL (insL x v L)) = [] ++ (svs (keysL L)).take pk ++ [.string x] ++ (svs (keysL L)).drop pk := by
    rw [h2, keysL_ins]
    unfold svs
    simp [List.map_take, List.map_drop]
  have hvals : ivs (valsL (insL x v L)) = [] ++ (ivs (valsL L)).take pk ++ [.int .i64 v] ++ (ivs (valsL L)).drop pk := by
    rw [h2, valsL_ins]
    unfold ivs
    simp [List.map_take, List.map_drop]
  have hlen : (insL x v L).length = nL + 1 := by
    rw [h2]
    simp only [List.length_append, List.length_cons, List.length_take, List.length_drop]
    have := h.hl
    omega
  have hnum : 0 + pk + 1 + (nL - pk) = nL + 1 := by omega
  rw [← hkeys, hnum] at o1
  rw [← hvals, hnum] at o2
  have q1 := o1
  have q2 := o2
  have e1 : (svs (keysL (insL x v L))).length = nL + 1 := by rw [keysL_len', hlen]
  have e2 : (ivs (valsL (insL x v L))).length = nL + 1 := by rw [valsL_len', hlen]
  rw [← e1] at q1
  rw [← e2] at q2
  obtain ⟨A1, c1, g1, rfl, _⟩ := sv_row q1
  obtain ⟨A2, c2, g2, rfl, _⟩ := sv_row q2
  rw [e1] at o1 ⊢
  rw [e2] at o2 ⊢
  refine ⟨A1, c1, A2, c2, rfl, rfl, ⟨(ho.below F1.bel).below F2.bel, row_down (Nat.le_trans r3.size (Nat.le_refl _)) (row_below o1 F2.bel), row_down (Nat.le_trans r3.size F1.le) o2, hlen, (r3.trans (F1.bel.mono r3.size)).trans (F2.bel.mono (Nat.le_trans r3.size F1.le)), h.ge, ?_, insL_key40 h.key hx⟩⟩
  rw [hlen]
  have := h.len
  have := h.hl
  omega
/-- A take where something was. -/
theorem Pl.del_case (h : Pl w0 w2 g n L nL Ak ck Av cv) (hp : lplace x (keysL L) = (pk, true)) (ho : OI.Om w3 g (delL x L)) (hk : OI.Ko w2 w3 g) {V1 V2 : Value} (F1 : Fr w3 w4) (o1 : w4.ownsRow w3.heap.size 9 1 V1 (0 + pk + (nL - (pk + 1))) ([] ++ (svs (keysL L)).take pk ++ (svs (keysL L)).drop (pk + 1))) (F2 : Fr w4 w5) (o2 : w5.ownsRow w4.heap.size 2 1 V2 (0 + pk + (nL - (pk + 1))) ([] ++ (ivs (valsL L)).take pk ++ (ivs (valsL L)).drop (pk + 1))) :
    ∃ A1 c1 A2 c2, V1 = .slice A1 (nL - 1) c1 ∧ V2 = .slice A2 (nL - 1) c2 ∧ Pl w0 w5 g (n + 1) (delL x L) (nL - 1) A1 c1 A2 c2 := by
  obtain ⟨u, hu, hlt⟩ := h.some_at hp
  have h3 := (lplace_all (x := x) 0 h.om.srt).2.2.1
  rw [hp] at h3
  simp only [if_true] at h3
  obtain ⟨r1, r2, r3⟩ := h.rows hk
  have hkeys : svs (keysL (delL x L)) = [] ++ (svs (keysL L)).take pk ++ (svs (keysL L)).drop (pk + 1) := by
    rw [h3, keysL_del]
    unfold svs
    simp [List.map_take, List.map_drop]
  have hvals : ivs (valsL (delL x L)) = [] ++ (ivs (valsL L)).take pk ++ (ivs (valsL L)).drop (pk + 1) := by
    rw [h3, valsL_del]
    unfold ivs
    simp [List.map_take, List.map_drop]
  have hlen : (delL x L).length = nL - 1 := by
    rw [h3, erase_cut]
    simp only [List.length_append, List.length_take, List.length_drop]
    have := h.hl
    omega
  have hnum : 0 + pk + (nL - (pk + 1)) = nL - 1 := by omega
  rw [← hkeys, hnum] at o1
  rw [← hvals, hnum] at o2
  have q1 := o1
  have q2 := o2
  have e1 : (svs (keysL (delL x L))).length = nL - 1 := by rw [keysL_len', hlen]
  have e2 : (ivs (valsL (delL x L))).length = nL - 1 := by rw [valsL_len', hlen]
  rw [← e1] at q1
  rw [← e2] at q2
  obtain ⟨A1, c1, g1, rfl, _⟩ := sv_row q1
  obtain ⟨A2, c2, g2, rfl, _⟩ := sv_row q2
  rw [e1] at o1 ⊢
  rw [e2] at o2 ⊢
  refine ⟨A1, c1, A2, c2, rfl, rfl, ⟨(ho.below F1.bel).below F2.bel, row_down r3.size (row_below o1 F2.bel), row_down (Nat.le_trans r3.size F1.le) o2, hlen, (r3.trans (F1.bel.mono r3.size)).trans (F2.bel.mono (Nat.le_trans r3.size F1.le)), h.ge, ?_, fun q hq => h.key q (delL_sub.subset hq)⟩⟩
  rw [hlen]
  have := h.len
  have := h.hl
  omega
/-- A take where nothing was. -/
theorem Pl.no_case (h : Pl w0 w2 g n L nL Ak ck Av cv) (hp : lplace x (keysL L) = (pk, false)) (ho : OI.Om w3 g (delL x L)) (hk : OI.Ko w2 w3 g) : Pl w0 w3 g (n + 1) L nL Ak ck Av cv := by
  have h3 := (lplace_all (x := x) 0 h.om.srt).2.2.1
  rw [hp] at h3
  simp only [Bool.false_eq_true, if_false] at h3
  rw [h3] at ho
  obtain ⟨r1, r2, r3⟩ := h.rows hk
  exact ⟨ho, r1, r2, h.hl, r3, h.ge, Nat.le_succ_of_le h.len, h.key⟩
end
end Go.Proofs.Ytmapfbnfcbkjpaa
