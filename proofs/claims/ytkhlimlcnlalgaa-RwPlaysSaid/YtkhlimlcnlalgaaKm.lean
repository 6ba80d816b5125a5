/- The lock: what its steps keep. -/
import Derived.Test.YtkhlimlcnlalgaaKk
namespace Go.Proofs.Ytkhlimlcnlalgaa
open Go.RowKit Go.Maps
set_option linter.unusedVariables false
set_option linter.unusedSimpArgs false
theorem mvC_len : ∀ (Q H : List Pq), (mvC Q H).length + (mvQ Q H).length = Q.length
  | [], H => rfl
  | p :: Q, H => by
    unfold mvC mvQ
    split
    · have := mvC_len Q (H ++ [p])
      simp only [List.length_cons]
      omega
    · simp
theorem mvH_len : ∀ (Q H : List Pq), (mvH Q H).length + (mvQ Q H).length = H.length + Q.length
  | [], H => rfl
  | p :: Q, H => by
    unfold mvH mvQ
    split
    · have := mvH_len Q (H ++ [p])
      simp only [List.length_cons, List.length_append, List.length_nil] at this ⊢
      omega
    · rfl
theorem mvH_ge : ∀ (Q H : List Pq), H.length ≤ (mvH Q H).length
  | [], H => Nat.le_refl _
  | p :: Q, H => by
    unfold mvH
    split
    · have := mvH_ge Q (H ++ [p])
      simp only [List.length_append] at this
      omega
    · exact Nat.le_refl _
theorem may_nil (v : Int) : mayB [] v = true := by unfold mayB wrB; split <;> rfl
/-- Nobody holds it: nobody waits. -/
def Em (Q H : List Pq) : Prop := H = [] → Q = []
theorem em_mv (Q H : List Pq) : Em (mvQ Q H) (mvH Q H) := by
  cases Q with
  | nil => exact fun _ => rfl
  | cons p Q =>
    intro h
    have h2 := mvH_ge (p :: Q) H
    rw [h] at h2
    have hH : H = [] := List.length_eq_zero_iff.1 (Nat.le_zero.1 h2)
    subst hH
    unfold mvH at h
    rw [if_pos (may_nil _)] at h
    have h3 := mvH_ge Q ([] ++ [p])
    rw [h] at h3
    simp at h3
theorem em_ask {Q H : List Pq} (h : Em Q H) (x : Int) (wr : Bool) : Em (askQ Q H x wr) (askH Q H x wr) := by
  unfold askQ askH
  split
  · exact em_mv _ _
  · exact h
theorem em_lv {Q H : List Pq} (h : Em Q H) (x : Int) : Em (lvQ Q H x) (lvH Q H x) := by
  unfold lvQ lvH
  split
  · exact h
  · exact em_mv _ _
theorem srtK_mem {x : Int} {H : List Pq} : x ∈ srtK H ↔ x ∈ keysOf H := List.mem_mergeSort
theorem srtK_rise {H : List Pq} (h : (keysOf H).Nodup) : (srtK H).Pairwise (· < ·) := by
  have h1 : (srtK H).Pairwise (fun a b => leI a b = true) := List.pairwise_mergeSort (fun a b c h1 h2 => by unfold leI at *; simp at *; omega) (fun a b => by unfold leI; simp; omega) _
  have h2 : (srtK H).Nodup := (List.mergeSort_perm _ _).nodup_iff.2 h
  exact (h1.and h2).imp (fun ⟨a, b⟩ => by unfold leI at a; simp at a; omega)
section
variable {w0 w w' : World} {R b n : Nat} {Q H : List Pq}
theorem Lw.hold (h : Lw w0 w R b n Q H) {x : Int} (hx : x ∈ srtK H) : wf x ∧ ∃ v, lkh x H = some v ∧ stL Q H x = v ∧ (v = 2 ∨ v = 3) ∧ (v = 3 → H.length = 1) := by
  obtain ⟨V, D, h, _⟩ := h
  obtain ⟨v, hv⟩ := Option.isSome_iff_exists.1 (lkh_iff.2 (srtK_mem.1 hx))
  have hm := lkh_mem hv
  refine ⟨(h.wfs _ (List.mem_append_left _ hm)).1, v, hv, by unfold stL; rw [hv], h.lkv hv, fun e => h.alone ?_⟩
  subst e
  exact List.any_eq_true.2 ⟨_, hm, rfl⟩
theorem Lw.wait (h : Lw w0 w R b n Q H) {x : Int} (hx : x ∈ keysOf Q) : wf x ∧ stL Q H x = 1 := by
  obtain ⟨V, D, h, _⟩ := h
  obtain ⟨p, hp, rfl⟩ := List.mem_map.1 hx
  refine ⟨(h.wfs _ (List.mem_append_right _ hp)).1, ?_⟩
  have hl : lkh p.1 H = none := by
    cases e : lkh p.1 H with
    | none => rfl
    | some v => exact absurd rfl ((List.nodup_append.1 h.one).2.2 _ (lkh_iff.1 (by rw [e]; rfl)) _ hx)
  unfold stL
  rw [hl, qhas_iff.2 hx]
  rfl
theorem Lw.rise (h : Lw w0 w R b n Q H) : (srtK H).Pairwise (· < ·) := by
  obtain ⟨V, D, h, _⟩ := h
  exact srtK_rise h.oneH
/-- A holder leaves: how many are left. -/
theorem Lw.lv_hold (h : Lw w0 w R b n Q H) {x : Int} (hx : x ∈ srtK H) : (lvC Q H x).length + (lvQ Q H x).length = Q.length ∧ (lvH Q H x).length + (lvQ Q H x).length + 1 = H.length + Q.length := by
  obtain ⟨_, v, hv, hs, h2, _⟩ := h.hold hx
  obtain ⟨V, D, h, _⟩ := h
  have hl : (lkh x H).isSome = true := by rw [hv]; rfl
  have hne : ¬ stL Q H x = 0 := by omega
  unfold lvC lvQ lvH preQ preH
  rw [if_neg hne, if_neg hne, if_neg hne, if_pos hl, if_pos hl]
  have h3 := mvC_len Q (delH H x)
  have h4 := mvH_len Q (delH H x)
  have h5 := delH_len h.oneH hl
  omega
theorem lw_mono {m : Nat} (h : Lw w0 w R b n Q H) (hm : n ≤ m) : Lw w0 w R b m Q H := by
  obtain ⟨V, D, h1, h2⟩ := h
  exact ⟨V, D, h1.mono hm, h2⟩
end
end Go.Proofs.Ytkhlimlcnlalgaa
