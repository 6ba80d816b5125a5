/- Turns: what an Ask does, what a Leave does. -/
import Derived.Test.YtkhlimlcnlalgaaKs
namespace Go.Proofs.Ytkhlimlcnlalgaa
open Go.RowKit Go.Maps
set_option linter.unusedVariables false
set_option linter.unusedSimpArgs false
set_option maxRecDepth 100000
section
variable {w0 w : World} {R b n : Nat} {Q H : List Pq} {W : List Int} {x : Int}
theorem stL_last (hl : lkh x H = none) (v : Int) : stL (Q ++ [(x, v)]) H x = 1 := by
  unfold stL
  rw [hl, show qhas x (Q ++ [(x, v)]) = true from by unfold qhas; rw [List.any_append]; simp]
  rfl
theorem Lw.none (h : Lw w0 w R b n Q H) (hs : stL Q H x = 0) : lkh x H = none ∧ x ∉ keysOf H ∧ x ∉ keysOf Q := by
  obtain ⟨V, D, h, _⟩ := h
  obtain ⟨h1, h2⟩ := stL_zero h hs
  refine ⟨?_, h1, h2⟩
  cases e : lkh x H with
  | none => rfl
  | some v => exact absurd (lkh_iff.1 (by rw [e]; rfl)) h1
/-- One who asks: he is in, with nobody who waits, or he is the last who waits. -/
theorem ask_turn (h : Lw w0 w R b n Q H) (hst : St Q H) (hs : stL Q H x = 0) (wr : Bool) : (askR Q H x wr = true ∧ Q = [] ∧ askQ Q H x wr = []) ∨ (askR Q H x wr = false ∧ askQ Q H x wr = Q ++ [(x, willOf wr)]) := by
  obtain ⟨hl, h1, h2⟩ := h.none hs
  unfold askR askQ
  rw [if_pos hs, if_pos hs]
  by_cases hq : Q = []
  · subst hq
    by_cases hm : mayB H (willOf wr) = true
    · left
      have e1 : mvQ ([] ++ [(x, willOf wr)]) H = [] := by
        show mvQ [(x, willOf wr)] H = []
        unfold mvQ
        rw [if_pos hm]; rfl
      have e2 : mvH ([] ++ [(x, willOf wr)]) H = H ++ [(x, willOf wr)] := by
        show mvH [(x, willOf wr)] H = _
        unfold mvH
        rw [if_pos hm]; rfl
      rw [e1, e2]
      refine ⟨?_, rfl, rfl⟩
      unfold stL
      rw [lkh_append, hl, if_pos rfl]
      cases wr <;> rfl
    · right
      have e1 : mvQ ([] ++ [(x, willOf wr)]) H = [] ++ [(x, willOf wr)] := by
        show mvQ [(x, willOf wr)] H = _
        unfold mvQ
        rw [if_neg hm]; rfl
      have e2 : mvH ([] ++ [(x, willOf wr)]) H = H := by
        show mvH [(x, willOf wr)] H = _
        unfold mvH
        rw [if_neg hm]
      rw [e1, e2, stL_last hl]
      exact ⟨rfl, rfl⟩
  · right
    obtain ⟨e1, e2⟩ := st_stays hst hq [(x, willOf wr)]
    rw [e1, e2, stL_last hl]
    exact ⟨rfl, rfl⟩
theorem ask_same (hs : ¬ stL Q H x = 0) (wr : Bool) : askR Q H x wr = false ∧ askQ Q H x wr = Q ∧ askH Q H x wr = H := by
  unfold askR askQ askH
  rw [if_neg hs, if_neg hs, if_neg hs]
  exact ⟨rfl, rfl, rfl⟩
theorem st_ask (hst : St Q H) (wr : Bool) : St (askQ Q H x wr) (askH Q H x wr) := by
  unfold askQ askH
  split
  · exact st_mv _ _
  · exact hst
theorem wr_in (hw : Wr Q W) (W' : List Int) : Wr [] W' := fun p hp => by cases hp
theorem wr_ask (h : Lw w0 w R b n Q H) (hw : Wr Q W) (hs : stL Q H x = 0) (wr : Bool) : Wr (Q ++ [(x, willOf wr)]) (if wr then wo W x ++ [x] else wo W x) := by
  obtain ⟨hl, h1, h2⟩ := h.none hs
  intro p hp
  rcases List.mem_append.1 hp with hp | hp
  · have hne : p.1 ≠ x := fun e => h2 (e ▸ List.mem_map.2 ⟨p, hp, rfl⟩)
    have := hw p hp
    cases wr with
    | true => simp [wo_mem, hne, this]
    | false => simp [wo_mem, hne, this]
  · rw [List.mem_singleton.1 hp]
    cases wr with
    | true => simp [willOf]
    | false => simp [willOf, wo_mem]
/-- One who leaves: those who wait are those who come in, and the rest. -/
theorem leave_turn (h : Lw w0 w R b n Q H) : wo (keysOf Q) x = lvC Q H x ++ keysOf (lvQ Q H x) ∧ stL (lvQ Q H x) (lvH Q H x) x = 0 ∧ ∀ p ∈ lvQ Q H x, p ∈ Q := by
  obtain ⟨V, D, hb, hbel⟩ := id h
  by_cases hs : stL Q H x = 0
  · obtain ⟨hl, h1, h2⟩ := h.none hs
    unfold lvC lvQ lvH
    rw [if_pos hs, if_pos hs, if_pos hs]
    exact ⟨wo_id h2, hs, fun p hp => hp⟩
  · unfold lvC lvQ lvH
    rw [if_neg hs, if_neg hs, if_neg hs]
    have hone := List.nodup_append.1 hb.one
    have hK : keysOf (preQ Q H x) = wo (keysOf Q) x ∧ x ∉ keysOf (preH H x) ∧ ∀ p ∈ preQ Q H x, p ∈ Q := by
      unfold preQ preH
      by_cases hl : (lkh x H).isSome = true
      · rw [if_pos hl, if_pos hl]
        refine ⟨(wo_id (fun hx => hone.2.2 _ (lkh_iff.1 hl) _ hx rfl)).symm, fun hx => ?_, fun p hp => hp⟩
        have := lkh_iff.2 hx
        rw [lkh_del] at this
        cases this
      · have hx : x ∉ keysOf H := fun hx => hl (lkh_iff.2 hx)
        rw [if_neg hl, if_neg hl]
        by_cases hq : qhas x Q = true
        · rw [if_pos hq]
          exact ⟨leaveQ_keys hone.2.1 hq, hx, fun p hp => List.mem_of_mem_eraseIdx hp⟩
        · rw [if_neg hq]
          exact ⟨(wo_id (fun hx => hq (qhas_iff.2 hx))).symm, hx, fun p hp => hp⟩
    obtain ⟨k1, k2, k3⟩ := hK
    refine ⟨by rw [← k1]; exact mvC_app _ _, ?_, fun p hp => k3 p (mvQ_sub hp)⟩
    have n1 : x ∉ keysOf (preQ Q H x) := by rw [k1]; exact fun hx => (wo_mem.1 hx).2 rfl
    have n2 : x ∉ keysOf (mvQ (preQ Q H x) (preH H x)) := fun hx => by
      obtain ⟨p, hp, e⟩ := List.mem_map.1 hx
      exact n1 (List.mem_map.2 ⟨p, mvQ_sub hp, e⟩)
    have n3 : x ∉ keysOf (mvH (preQ Q H x) (preH H x)) := fun hx => by
      obtain ⟨p, hp, e⟩ := List.mem_map.1 hx
      rcases mvH_sub hp with hp | hp
      · exact n1 (List.mem_map.2 ⟨p, hp, e⟩)
      · exact k2 (List.mem_map.2 ⟨p, hp, e⟩)
    unfold stL
    have e1 : lkh x (mvH (preQ Q H x) (preH H x)) = none := by
      cases e : lkh x (mvH (preQ Q H x) (preH H x)) with
      | none => rfl
      | some v => exact absurd (lkh_iff.1 (by rw [e]; rfl)) n3
    have e2 : qhas x (mvQ (preQ Q H x) (preH H x)) = false := by
      cases e : qhas x (mvQ (preQ Q H x) (preH H x)) with
      | false => rfl
      | true => exact absurd (qhas_iff.1 e) n2
    rw [e1, e2]
    rfl
theorem st_lv (hst : St Q H) : St (lvQ Q H x) (lvH Q H x) := by
  unfold lvQ lvH
  split
  · exact hst
  · exact st_mv _ _
/-- The first who waits, and may not: who holds it. -/
theorem first_waits (h : Lw w0 w R b n Q H) (hst : St Q H) (hw : Wr Q W) {p : Pq} {Q' : List Pq} (hq : Q = p :: Q') : 0 < (srtK H).length ∧ (p.1 ∉ W → ∃ y, srtK H = [y] ∧ wf y ∧ stL Q H y = 3) := by
  have hne : H ≠ [] := fun e => by have := hst.em e; rw [hq] at this; cases this
  refine ⟨by rw [srtK_len]; exact List.length_pos_iff.2 hne, fun hp => ?_⟩
  obtain ⟨V, D, hb, hbel⟩ := id h
  have hm := hst p Q' hq
  have hp3 : p.2 ≠ 3 := fun e => hp ((hw p (hq ▸ List.mem_cons_self)).1 e)
  have hw3 : wrB H = true := by
    unfold mayB at hm
    rw [if_neg hp3] at hm
    simpa using hm
  have h1 := hb.alone hw3
  obtain ⟨t, ht⟩ : ∃ t, H = [t] := by
    match H, h1 with
    | [t], _ => exact ⟨t, rfl⟩
  subst ht
  have ht3 : t.2 = 3 := by unfold wrB at hw3; simpa using hw3
  refine ⟨t.1, by unfold srtK keysOf; simp, (hb.wfs t (List.mem_append_left _ List.mem_cons_self)).1, ?_⟩
  unfold stL lkh
  rw [if_pos rfl]
  exact ht3
end
end Go.Proofs.Ytkhlimlcnlalgaa
