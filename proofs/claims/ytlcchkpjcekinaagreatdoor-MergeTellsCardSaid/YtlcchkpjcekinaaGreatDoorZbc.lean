/- merge: Clone, the closure of without, IndexFunc. -/
import Derived.Test.YtlcchkpjcekinaaGreatDoorZbb
/- merge's laws: MergeOne. -/
namespace Go.Proofs.YtlcchkpjcekinaaGreatDoor
open Go.RowKit
open Go.Lib hiding intOf
open Go.Sort Go.Proofs
set_option linter.unusedVariables false
set_option linter.unusedSimpArgs false
set_option maxRecDepth 100000
theorem onlyF_some {k : Int} {x : F3} : ∀ {L : List F3}, x ∈ L → x.1 = k → onlyF k L ∈ L ∧ (onlyF k L).1 = k
  | f :: L, h, hk => by
    unfold onlyF
    by_cases hf : f.1 = k
    · rw [if_pos hf]; exact ⟨List.mem_cons_self, hf⟩
    · rw [if_neg hf]
      rcases List.mem_cons.1 h with rfl | h
      · exact absurd hk hf
      · exact ⟨List.mem_cons_of_mem _ (onlyF_some h hk).1, (onlyF_some h hk).2⟩
theorem card_one {A : List F3} (hA : IsCard A) {k : Int} (hk : k = 1 ∨ k = 2 ∨ k = 5) {x : F3} (hx : x ∈ A) (hxk : x.1 = k) : onlyF k A = x := by
  obtain ⟨h1, h2⟩ := onlyF_some hx hxk
  have hn := card_nums hA
  by_cases he : onlyF k A = x
  · exact he
  · have h3 := cnt_two h1 hx h2 hxk he
    rcases hk with rfl | rfl | rfl <;> omega
theorem card_kind {A : List F3} (hA : IsCard A) {x : F3} (hx : x ∈ A) : sev x.1 = true ∨ x.1 = 1 ∨ x.1 = 2 ∨ x.1 = 5 := by
  have h1 := may_kinds (hA.cnn x hx).1
  have : x.1 = 1 ∨ x.1 = 2 ∨ x.1 = 3 ∨ x.1 = 4 ∨ x.1 = 5 ∨ x.1 = 6 := by omega
  unfold sev
  rcases this with h | h | h | h | h | h <;> rw [h] <;> simp
theorem card_nz {A : List F3} (hA : IsCard A) {x : F3} (hx : x ∈ A) : x ≠ zF := fun e => by
  have h1 := may_kinds (hA.cnn x hx).1
  rw [e] at h1
  have := h1.1
  simp at this
theorem thr1_iff {W X Y A : List F3} {s : List F3 × Nat} {k : Int} (ho : oneF (onlyF k W) (onlyF k X) (onlyF k Y) = (onlyF k A, false)) : (thr1 W X Y s k).2 = s.2 ∧ ∀ x, x ∈ (thr1 W X Y s k).1 ↔ x ∈ s.1 ∨ (onlyF k A ≠ zF ∧ x = onlyF k A) := by
  unfold thr1
  rw [ho]
  refine ⟨rfl, fun x => ?_⟩
  simp only
  by_cases hz : onlyF k A = zF
  · rw [if_pos hz]; simp [hz]
  · rw [if_neg hz, List.mem_append, List.mem_singleton]; simp [hz]
theorem thrL_is {W X Y A : List F3} (hA : IsCard A) (hm : ∀ f, f ∈ manyL W X Y ↔ sev f.1 = true ∧ f ∈ A) (ho : ∀ k, oneF (onlyF k W) (onlyF k X) (onlyF k Y) = (onlyF k A, false)) : (thrL W X Y 3).2 = 0 ∧ ∀ x, x ∈ (thrL W X Y 3).1 ↔ x ∈ A := by
  have e : thrL W X Y 3 = thr1 W X Y (thr1 W X Y (thr1 W X Y (manyL W X Y, 0) 1) 2) 5 := rfl
  rw [e]
  have s1 := thr1_iff (s := (manyL W X Y, 0)) (ho 1)
  have s2 := thr1_iff (s := thr1 W X Y (manyL W X Y, 0) 1) (ho 2)
  have s3 := thr1_iff (s := thr1 W X Y (thr1 W X Y (manyL W X Y, 0) 1) 2) (ho 5)
  refine ⟨by rw [s3.1, s2.1, s1.1], fun x => ?_⟩
  rw [s3.2, s2.2, s1.2, hm]
  have hin : ∀ k, onlyF k A ≠ zF → onlyF k A ∈ A := fun k hz => by
    rcases onlyF_mem k A with h | h
    · exact absurd h hz
    · exact h.1
  constructor
  · rintro (((⟨_, h⟩ | ⟨hz, rfl⟩) | ⟨hz, rfl⟩) | ⟨hz, rfl⟩)
    · exact h
    · exact hin 1 hz
    · exact hin 2 hz
    · exact hin 5 hz
  · intro hx
    have hz := card_nz hA hx
    rcases card_kind hA hx with h | h | h | h
    · exact .inl (.inl (.inl ⟨h, hx⟩))
    · have := card_one hA (.inl rfl) hx h
      exact .inl (.inl (.inr ⟨by rw [this]; exact hz, this.symm⟩))
    · have := card_one hA (.inr (.inl rfl)) hx h
      exact .inl (.inr ⟨by rw [this]; exact hz, this.symm⟩)
    · have := card_one hA (.inr (.inr rfl)) hx h
      exact .inr ⟨by rw [this]; exact hz, this.symm⟩
theorem three_is {o a b r : ByteArray} (ho : isC o = true) (ha : isC a = true) (hb : isC b = true) (hr : isC r = true) (hm : ∀ f, f ∈ manyL (parL o).1 (parL a).1 (parL b).1 ↔ sev f.1 = true ∧ f ∈ (parL r).1)
    (h1 : ∀ k, oneF (onlyF k (parL o).1) (onlyF k (parL a).1) (onlyF k (parL b).1) = (onlyF k (parL r).1, false)) : threeS o a b = (r, 0, 0) := by
  obtain ⟨hc, ht⟩ := parL_card (isC_card hr).1
  obtain ⟨h2, h3⟩ := thrL_is hc hm h1
  have hs := txtL_same h3
  rw [card_txt hc, ht] at hs
  unfold threeS
  rw [ho, ha, hb]
  show threeL _ _ _ = _
  unfold threeL
  have hz : (txtL (thrL (parL o).1 (parL a).1 (parL b).1 3).1).2 = 0 := by simpa using hs.2
  rw [if_pos hz, h2, hs.1]
  rfl
theorem three_one {o a : ByteArray} (ho : isC o = true) (ha : isC a = true) : threeS o o a = (a, 0, 0) ∧ threeS o a o = (a, 0, 0) ∧ threeS o a a = (a, 0, 0) := by
  refine ⟨three_is ho ho ha ha (fun f => ?_) (fun k => ?_), three_is ho ha ho ha (fun f => ?_) (fun k => ?_), three_is ho ha ha ha (fun f => ?_) (fun k => ?_)⟩
  · rw [manyL_iff]
    by_cases h1 : f ∈ (parL o).1 <;> by_cases h2 : f ∈ (parL a).1 <;> simp [h1, h2]
  · unfold oneF; rw [if_pos rfl]
  · rw [manyL_iff]
    by_cases h1 : f ∈ (parL o).1 <;> by_cases h2 : f ∈ (parL a).1 <;> simp [h1, h2]
  · unfold oneF
    by_cases h : onlyF k (parL a).1 = onlyF k (parL o).1
    · rw [if_pos h, h]
    · rw [if_neg h]; simp
  · rw [manyL_iff]
    by_cases h1 : f ∈ (parL o).1 <;> by_cases h2 : f ∈ (parL a).1 <;> simp [h1, h2]
  · unfold oneF
    by_cases h : onlyF k (parL a).1 = onlyF k (parL o).1
    · rw [if_pos h]
    · rw [if_neg h]; simp
theorem is_on (s : ByteArray) (hs : s.size ≤ 1000000) (r : Bool) (hr : isC s = r) (w : World) : Calls Tryz.prog 15 #[.string s] w fun e w' => e = .returned (.bool r) ∧ Below w.heap.size w w' := hr ▸ ris_any s hs w
set_option maxHeartbeats 8000000 in
theorem mergeOne_walk (w : World) (hTD : Tabs w ∧ Day.Tab w.heap.size w) (hM : Mx w) (a0 : ByteArray) (w0 : a0.size ≤ maxLen) (a1 : ByteArray) (w1 : a1.size ≤ maxLen) :
    Calls Tryz.prog 4 #[.string a0, .string a1] w fun e w' => e = .returned (.bool true) ∧ Below w.heap.size w w' := by
  have HE := Lib.hid (show Env w from ⟨hTD.1, hM, hTD.2⟩)
  have HF := Lib.hid (fun v (h : Env v) => first_any v h)
  by_cases hbig : 1000 < a0.size ∨ 1000 < a1.size ∨ 1000 < (⟨#[]⟩ : ByteArray).size
  · have HL := Lib.hid (fun v => light_no a0 a1 ⟨#[]⟩ hbig v)
    clear hbig hTD hM w0 w1
    go_enter Tryz.func4, Tryz.ntmps4
    go_wp2_with (first
      | (go_at_call 8; (with_reducible refine (HF.out _ HE.out).mono ?_); rintro _ v1 ⟨rfl, hb⟩; have HB1 := Lib.hid hb; clear hb)
      | (go_at_call 9; (with_reducible refine (HL.out _).mono ?_); rintro _ vz ⟨rfl, hw0⟩; replace hw0 := hw0.symm; subst hw0)
      | (go_at_call 15; (with_reducible refine (HI0.out _).mono ?_); rintro _ v2 ⟨rfl, hb⟩; have HB2 := Lib.hid (HB1.out.trans (hb.mono HB1.out.size)); clear hb)
      | (go_at_call 15; (with_reducible refine (HI1.out _).mono ?_); rintro _ v3 ⟨rfl, hb⟩; have HB3 := Lib.hid (HB2.out.trans (hb.mono HB2.out.size)); clear hb)
      | fail)
    refine (HF.out _ (HE.out.on HB1.out)).mono ?_
    rintro _ vl ⟨rfl, hb⟩
    have HBL := Lib.hid (HB1.out.trans (hb.mono HB1.out.size))
    clear hb
    go_wp2
    go_ret
    exact ⟨rfl, HBL.out⟩
  · have hes : (⟨#[]⟩ : ByteArray).size = 0 := rfl
    have HL := Lib.hid (fun v => light_yes a0 a1 ⟨#[]⟩ (by omega) (by omega) (by omega) v)
    have h0 : a0.size ≤ 1000000 := by omega
    have h1 : a1.size ≤ 1000000 := by omega
    clear hbig hTD hM w0 w1 hes
    cases hi0 : isC a0 with
    | false =>
      have HI0 := Lib.hid (fun v => is_on a0 h0 _ hi0 v)
      clear hi0 h0 h1
      go_enter Tryz.func4, Tryz.ntmps4
      go_wp2_with (first
        | (go_at_call 8; (with_reducible refine (HF.out _ HE.out).mono ?_); rintro _ v1 ⟨rfl, hb⟩; have HB1 := Lib.hid hb; clear hb)
        | (go_at_call 9; (with_reducible refine (HL.out _).mono ?_); rintro _ vz ⟨rfl, hw0⟩; replace hw0 := hw0.symm; subst hw0)
        | (go_at_call 15; (with_reducible refine (HI0.out _).mono ?_); rintro _ v2 ⟨rfl, hb⟩; have HB2 := Lib.hid (HB1.out.trans (hb.mono HB1.out.size)); clear hb)
        | (go_at_call 15; (with_reducible refine (HI1.out _).mono ?_); rintro _ v3 ⟨rfl, hb⟩; have HB3 := Lib.hid (HB2.out.trans (hb.mono HB2.out.size)); clear hb)
        | fail)
      refine (HF.out _ (HE.out.on HB2.out)).mono ?_
      rintro _ vl ⟨rfl, hb⟩
      have HBL := Lib.hid (HB2.out.trans (hb.mono HB2.out.size))
      clear hb
      go_wp2
      go_ret
      exact ⟨rfl, HBL.out⟩
    | true =>
      have HI0 := Lib.hid (fun v => is_on a0 h0 _ hi0 v)
      cases hi1 : isC a1 with
      | false =>
        have HI1 := Lib.hid (fun v => is_on a1 h1 _ hi1 v)
        clear hi0 h0 h1 hi1
        go_enter Tryz.func4, Tryz.ntmps4
        go_wp2_with (first
          | (go_at_call 8; (with_reducible refine (HF.out _ HE.out).mono ?_); rintro _ v1 ⟨rfl, hb⟩; have HB1 := Lib.hid hb; clear hb)
          | (go_at_call 9; (with_reducible refine (HL.out _).mono ?_); rintro _ vz ⟨rfl, hw0⟩; replace hw0 := hw0.symm; subst hw0)
          | (go_at_call 15; (with_reducible refine (HI0.out _).mono ?_); rintro _ v2 ⟨rfl, hb⟩; have HB2 := Lib.hid (HB1.out.trans (hb.mono HB1.out.size)); clear hb)
          | (go_at_call 15; (with_reducible refine (HI1.out _).mono ?_); rintro _ v3 ⟨rfl, hb⟩; have HB3 := Lib.hid (HB2.out.trans (hb.mono HB2.out.size)); clear hb)
          | fail)
        refine (HF.out _ (HE.out.on HB3.out)).mono ?_
        rintro _ vl ⟨rfl, hb⟩
        have HBL := Lib.hid (HB3.out.trans (hb.mono HB3.out.size))
        clear hb
        go_wp2
        go_ret
        exact ⟨rfl, HBL.out⟩
      | true =>
        have HI1 := Lib.hid (fun v => is_on a1 h1 _ hi1 v)
        obtain ⟨t1, t2, t3⟩ := three_one hi0 hi1
        have H1 := Lib.hid (fun v (h : Env v) => three_on a0 a0 a1 h0 h0 h1 _ _ _ t1 v h)
        have H2 := Lib.hid (fun v (h : Env v) => three_on a0 a1 a0 h0 h1 h0 _ _ _ t2 v h)
        have H3 := Lib.hid (fun v (h : Env v) => three_on a0 a1 a1 h0 h1 h1 _ _ _ t3 v h)
        clear hi0 h0 h1 hi1 t1 t2 t3
        go_enter Tryz.func4, Tryz.ntmps4
        go_wp2_with (first
          | (go_at_call 8; (with_reducible refine (HF.out _ HE.out).mono ?_); rintro _ v1 ⟨rfl, hb⟩; have HB1 := Lib.hid hb; clear hb)
          | (go_at_call 9; (with_reducible refine (HL.out _).mono ?_); rintro _ vz ⟨rfl, hw0⟩; replace hw0 := hw0.symm; subst hw0)
          | (go_at_call 15; (with_reducible refine (HI0.out _).mono ?_); rintro _ v2 ⟨rfl, hb⟩; have HB2 := Lib.hid (HB1.out.trans (hb.mono HB1.out.size)); clear hb)
          | (go_at_call 15; (with_reducible refine (HI1.out _).mono ?_); rintro _ v3 ⟨rfl, hb⟩; have HB3 := Lib.hid (HB2.out.trans (hb.mono HB2.out.size)); clear hb)
          | fail)
        refine (H1.out _ (HE.out.on HB3.out)).mono ?_
        rintro _ v4 ⟨rfl, hb⟩
        have HB4 := Lib.hid (HB3.out.trans (hb.mono HB3.out.size))
        clear hb
        go_wp2_with fail
        refine (H2.out _ (HE.out.on HB4.out)).mono ?_
        rintro _ v5 ⟨rfl, hb⟩
        have HB5 := Lib.hid (HB4.out.trans (hb.mono HB4.out.size))
        clear hb
        go_wp2_with fail
        refine (H3.out _ (HE.out.on HB5.out)).mono ?_
        rintro _ v6 ⟨rfl, hb⟩
        have HB6 := Lib.hid (HB5.out.trans (hb.mono HB5.out.size))
        clear hb
        go_wp2
        go_ret
        exact ⟨rfl, HB6.out⟩
end Go.Proofs.YtlcchkpjcekinaaGreatDoor
/- merge's laws: MergeMakes. -/
namespace Go.Proofs.YtlcchkpjcekinaaGreatDoor
open Go.RowKit
open Go.Lib hiding intOf
open Go.Sort Go.Proofs
set_option linter.unusedVariables false
set_option linter.unusedSimpArgs false
set_option maxRecDepth 100000
theorem rparse_on_f (s : ByteArray) (hs : s.size ≤ 1000000) (rv : List F3) (re : Int) (hp : parL s = (rv, re)) (m : Nat) (hm : rv.length = m) (v : World) :
    Calls Tryz.prog 16 #[.string s] v fun e w' => ∃ A' cap' g, e = .returned (.tuple #[.slice A' m cap', .int .i64 re]) ∧ Fv w' A' cap' g 0 rv ∧ Below v.heap.size v w' := by
  have := rparse_any s hs v
  rw [hp] at this
  simp only [hm] at this
  exact this.mono fun e w' ⟨hb, A', cap', g, he, hf⟩ => ⟨A', cap', g, he, hf, hb⟩
theorem thr1_mono {W X Y : List F3} {s : List F3 × Nat} {k : Int} {x : F3} (h : x ∈ s.1) : x ∈ (thr1 W X Y s k).1 := by
  unfold thr1
  simp only
  split
  · exact h
  · exact List.mem_append_left _ h
theorem thr1_has {W X Y : List F3} {s : List F3 × Nat} {k : Int} {x : F3} (h : (oneF (onlyF k W) (onlyF k X) (onlyF k Y)).1 = x) (hz : x ≠ zF) : x ∈ (thr1 W X Y s k).1 := by
  unfold thr1
  simp only
  rw [h, if_neg hz]
  simp
theorem oneF_both (base x : F3) : (oneF base x x).1 = x := by
  unfold oneF; split <;> rfl
theorem three_makes {o a b s : ByteArray} {n e : Int} (h : threeS o a b = (s, n, e)) (he : e = 0) : (parL s).2 = 0 ∧ (∀ f ∈ (parL s).1, f ∈ (parL a).1 ∨ f ∈ (parL b).1) ∧ (∀ f ∈ (parL a).1, f ∈ (parL b).1 → f ∈ (parL s).1) ∧ s.size ≤ 900 := by
  have k1 := threeS_ok (o := o) (a := a) (b := b) (by rw [h]; exact he)
  rw [h] at k1
  obtain ⟨i1, i2, i3, k2, k3, _⟩ := k1
  simp only at k3
  obtain ⟨cX, _⟩ := parL_card (isC_card i2).1
  obtain ⟨cY, _⟩ := parL_card (isC_card i3).1
  have hmem := thrL_mem (W := (parL o).1) (X := (parL a).1) (Y := (parL b).1) 3
  have hin : ∀ f ∈ (parL a).1, f ∈ (parL b).1 → f ∈ (thrL (parL o).1 (parL a).1 (parL b).1 3).1 := fun f h1 h2 => by
    have e3 : thrL (parL o).1 (parL a).1 (parL b).1 3 = thr1 (parL o).1 (parL a).1 (parL b).1 (thr1 (parL o).1 (parL a).1 (parL b).1 (thr1 (parL o).1 (parL a).1 (parL b).1 (manyL (parL o).1 (parL a).1 (parL b).1, 0) 1) 2) 5 := rfl
    rw [e3]
    have hz := card_nz cX h1
    rcases card_kind cX h1 with hk | hk | hk | hk
    · exact thr1_mono (thr1_mono (thr1_mono ((manyL_iff _ _ _ f).2 ⟨hk, .inl ⟨h1, h2⟩⟩)))
    · exact thr1_mono (thr1_mono (thr1_has (by rw [card_one cX (.inl rfl) h1 hk, card_one cY (.inl rfl) h2 hk, oneF_both]) hz))
    · exact thr1_mono (thr1_has (by rw [card_one cX (.inr (.inl rfl)) h1 hk, card_one cY (.inr (.inl rfl)) h2 hk, oneF_both]) hz)
    · exact thr1_has (by rw [card_one cX (.inr (.inr rfl)) h1 hk, card_one cY (.inr (.inr rfl)) h2 hk, oneF_both]) hz
  obtain ⟨L, hL⟩ : ∃ L, (thrL (parL o).1 (parL a).1 (parL b).1 3).1 = L := ⟨_, rfl⟩
  rw [hL] at k2 k3 hmem hin
  have hc : (canL L).2 = 0 := by
    unfold txtL at k2
    by_cases hh : (canL L).2 = 0
    · exact hh
    · rw [if_neg hh] at k2; exact absurd k2 hh
  have hs : s = txt (canL L).1 := by
    unfold txtL at k3
    rw [if_pos hc] at k3
    exact k3
  have hb := card_back (card_of hc)
  rw [← hs] at hb
  have hcn : cnA L = L := (cnn_all fun f hf => (hmem f hf).elim (cX.cnn f) (cY.cnn f)).2
  rcases canL_spec L with ⟨_, _, h2, _, h4⟩ | ⟨h1, _⟩
  · rw [hcn] at h2
    rw [← hs] at h4
    rw [hb]
    refine ⟨rfl, fun f hf => ?_, fun f h1 h3 => ?_, h4⟩
    · simp only at hf
      rw [h2, rise_mem] at hf
      exact hmem f hf
    · show f ∈ (canL L).1
      rw [h2, rise_mem]
      exact hin f h1 h3
  · exact absurd hc h1
set_option maxHeartbeats 16000000 in
theorem mergeMakes_walk (w : World) (hTD : Tabs w ∧ Day.Tab w.heap.size w) (hM : Mx w) (a0 : ByteArray) (w0 : a0.size ≤ maxLen) (a1 : ByteArray) (w1 : a1.size ≤ maxLen) (a2 : ByteArray) (w2 : a2.size ≤ maxLen) :
    Calls Tryz.prog 6 #[.string a0, .string a1, .string a2] w fun e w' => e = .returned (.bool true) ∧ Below w.heap.size w w' := by
  have HE := Lib.hid (show Env w from ⟨hTD.1, hM, hTD.2⟩)
  have HF := Lib.hid (fun v (h : Env v) => first_any v h)
  by_cases hbig : 1000 < a0.size ∨ 1000 < a1.size ∨ 1000 < a2.size
  · have HL := Lib.hid (fun v => light_no a0 a1 a2 hbig v)
    clear hbig hTD hM w0 w1 w2
    go_enter Tryz.func6, Tryz.ntmps6
    go_wp2_with (first
      | (go_at_call 8; (with_reducible refine (HF.out _ HE.out).mono ?_); rintro _ v1 ⟨rfl, hb⟩; have HB1 := Lib.hid hb; clear hb)
      | (go_at_call 9; (with_reducible refine (HL.out _).mono ?_); rintro _ vz ⟨rfl, hw0⟩; replace hw0 := hw0.symm; subst hw0)
      | (go_at_call 15; (with_reducible refine (HI0.out _).mono ?_); rintro _ v2 ⟨rfl, hb⟩; have HB2 := Lib.hid (HB1.out.trans (hb.mono HB1.out.size)); clear hb)
      | (go_at_call 15; (with_reducible refine (HI1.out _).mono ?_); rintro _ v3 ⟨rfl, hb⟩; have HB3 := Lib.hid (HB2.out.trans (hb.mono HB2.out.size)); clear hb)
      | fail)
    refine (HF.out _ (HE.out.on HB1.out)).mono ?_
    rintro _ vl ⟨rfl, hb⟩
    have HBL := Lib.hid (HB1.out.trans (hb.mono HB1.out.size))
    clear hb
    go_wp2
    go_ret
    exact ⟨rfl, HBL.out⟩
  · have HL := Lib.hid (fun v => light_yes a0 a1 a2 (by omega) (by omega) (by omega) v)
    obtain ⟨s, n, e, h1⟩ : ∃ s n e, threeS a0 a1 a2 = (s, n, e) := ⟨_, _, _, rfl⟩
    have H1 := Lib.hid (fun v (h : Env v) => three_on a0 a1 a2 (by omega) (by omega) (by omega) s n e h1 v h)
    by_cases he : e = 0
    · obtain ⟨m1, m2, m3, m4⟩ := three_makes h1 he
      obtain ⟨L, eL, hpL⟩ : ∃ L eL, parL s = (L, eL) := ⟨_, _, rfl⟩
      obtain ⟨X, eX, hpX⟩ : ∃ L eL, parL a1 = (L, eL) := ⟨_, _, rfl⟩
      obtain ⟨Y, eY, hpY⟩ : ∃ L eL, parL a2 = (L, eL) := ⟨_, _, rfl⟩
      have hlX := parL_len a1
      have hlY := parL_len a2
      have hlL := parL_len s
      rw [hpL] at m1 m2 m3 hlL
      rw [hpX] at m2 m3 hlX
      rw [hpY] at m2 m3 hlY
      simp only at m1 m2 m3 hlX hlY hlL
      subst m1
      obtain ⟨nL, hnL⟩ : ∃ m, L.length = m := ⟨_, rfl⟩
      obtain ⟨nX, hnX⟩ : ∃ m, X.length = m := ⟨_, rfl⟩
      obtain ⟨nY, hnY⟩ : ∃ m, Y.length = m := ⟨_, rfl⟩
      rw [hnL] at hlL
      rw [hnX] at hlX
      rw [hnY] at hlY
      have HNL := Lib.hid hnL
      have HNX := Lib.hid hnX
      have HNY := Lib.hid hnY
      have HM2 := Lib.hid m2
      have HM3 := Lib.hid m3
      have HPL := Lib.hid (fun v => rparse_on_f s (by omega) L 0 hpL nL hnL v)
      have HPX := Lib.hid (fun v => rparse_on_f a1 (by omega) X eX hpX nX hnX v)
      have HPY := Lib.hid (fun v => rparse_on_f a2 (by omega) Y eY hpY nY hnY v)
      have hlLI : (nL : Int) ≤ 900 := by omega
      have hlXI : (nX : Int) ≤ 900 := by omega
      subst he
      clear hbig hTD hM w0 w1 w2 h1 hpL hpX hpY m2 m3 m4 hnL hnX hnY
      go_enter Tryz.func6, Tryz.ntmps6
      go_wp2_with (first
        | (go_at_call 8; (with_reducible refine (HF.out _ HE.out).mono ?_); rintro _ v1 ⟨rfl, hb⟩; have HB1 := Lib.hid hb; clear hb)
        | (go_at_call 9; (with_reducible refine (HL.out _).mono ?_); rintro _ vz ⟨rfl, hw0⟩; replace hw0 := hw0.symm; subst hw0)
        | (go_at_call 15; (with_reducible refine (HI0.out _).mono ?_); rintro _ v2 ⟨rfl, hb⟩; have HB2 := Lib.hid (HB1.out.trans (hb.mono HB1.out.size)); clear hb)
        | (go_at_call 15; (with_reducible refine (HI1.out _).mono ?_); rintro _ v3 ⟨rfl, hb⟩; have HB3 := Lib.hid (HB2.out.trans (hb.mono HB2.out.size)); clear hb)
        | fail)
      refine (H1.out _ (HE.out.on HB1.out)).mono ?_
      rintro _ v2 ⟨rfl, hb⟩
      have HB2 := Lib.hid (HB1.out.trans (hb.mono HB1.out.size))
      clear hb
      go_wp2_with fail
      refine (HPL.out _).mono ?_
      rintro _ v3 ⟨AL, cL, gL, rfl, hf, hb⟩
      have HB3 := Lib.hid (HB2.out.trans (hb.mono HB2.out.size))
      have KL3 := Lib.hid hf
      clear hb hf
      go_wp2_with fail
      refine (HPX.out _).mono ?_
      rintro _ v4 ⟨AX, cX, gX, rfl, hf, hb⟩
      have HB4 := Lib.hid (HB3.out.trans (hb.mono HB3.out.size))
      have KL4 := Lib.hid (KL3.out.below hb)
      have KX4 := Lib.hid hf
      clear hb hf
      go_wp2_with fail
      refine (HPY.out _).mono ?_
      rintro _ v5 ⟨AY, cY, gY, rfl, hf, hb⟩
      have HB5 := Lib.hid (HB4.out.trans (hb.mono HB4.out.size))
      have KL5 := Lib.hid (KL4.out.below hb)
      have KX5 := Lib.hid (KX4.out.below hb)
      have KY5 := Lib.hid hf
      clear hb hf KL3 KL4 KX4
      go_wp2_with fail
      have HKL := Lib.hid (fun (v : World) (h : Below v5.heap.size v5 v) => KL5.out.below h)
      have HKX := Lib.hid (fun (v : World) (h : Below v5.heap.size v5 v) => KX5.out.below h)
      have HKY := Lib.hid (fun (v : World) (h : Below v5.heap.size v5 v) => KY5.out.below h)
      clear KL5 KX5 KY5
      go_loopw [16] (fun i wr => ∃ q : Nat, q ≤ nL ∧ i = .int .i64 (q : Int) ∧ Below v5.heap.size v5 wr) (fun i _ => nL - (intOf i).toNat)
      case atStart => exact ⟨0, Nat.zero_le _, rfl, Below.refl _ _⟩
      case round =>
        obtain ⟨q, hq, rfl, hb⟩ := hrel
        have HB := Lib.hid hb
        clear hb
        by_cases hql : q < nL
        · obtain ⟨f, hf⟩ : ∃ f, L[q]? = some f := ⟨L[q]'(by rw [HNL.out]; exact hql), List.getElem?_eq_getElem _⟩
          obtain ⟨rfl, _, c0, c1, c2⟩ := (HKL.out _ HB.out).2 q f hf
          have HG := Lib.hid hf
          have hor := HM2.out f (List.mem_of_getElem? hf)
          have hqI : (q : Int) < (nL : Int) := by omega
          have hqJ : (0 : Int) ≤ (q : Int) := by omega
          have i1 : IntKind.i64.wrap ((q : Int) + 1) = ((q + 1 : Nat) : Int) := by rw [IntWalk.i64_in _ (by omega)]; omega
          have HHX := Lib.hid (fun (v : World) (h : Below v5.heap.size v5 v) => has_any (HKX.out v h) nX HNX.out (by omega) f)
          have HHY := Lib.hid (fun (v : World) (h : Below v5.heap.size v5 v) => has_any (HKY.out v h) nY HNY.out (by omega) f)
          have hor2 : hasF f X = true ∨ (hasF f X = false ∧ hasF f Y = true) := by
            cases hx : hasF f X with
            | true => exact .inl rfl
            | false => exact .inr ⟨rfl, (hasF_iff _ _).2 (hor.resolve_left (hasF_false.1 hx))⟩
          obtain ⟨f1, f2, f3⟩ := f
          simp only [Nat.zero_add] at c0 c1 c2
          simp only at HHX HHY
          clear hf hor
          rcases hor2 with hx | ⟨hx, hy⟩
          · rw [hx] at HHX
            clear hx HHY
            go_wp2_with (first
              | (go_at_call 17; (with_reducible refine (HHX.out _ HB.out).mono ?_); rintro _ u1 ⟨rfl, hb⟩; have HU1 := Lib.hid (HB.out.trans (hb.mono HB.out.size)); clear hb)
              | fail)
            go_wp2_with fail
            go_roundw
            case rel => exact ⟨q + 1, by omega, by go_num, HU1.out⟩
            case measure => simp [intOf]; omega
          · rw [hx] at HHX
            rw [hy] at HHY
            clear hx hy
            go_wp2_with (first
              | (go_at_call 17; (with_reducible refine (HHX.out _ HB.out).mono ?_); rintro _ u1 ⟨rfl, hb⟩; have HU1 := Lib.hid (HB.out.trans (hb.mono HB.out.size)); obtain ⟨_, _, d0, d1, d2⟩ := (HKL.out _ HU1.out).2 q _ HG.out; simp only [Nat.zero_add] at d0 d1 d2; clear hb)
              | (go_at_call 17; (with_reducible refine (HHY.out _ HU1.out).mono ?_); rintro _ u2 ⟨rfl, hb⟩; have HU2 := Lib.hid (HU1.out.trans (hb.mono HU1.out.size)); clear hb)
              | fail)
            go_wp2_with fail
            go_roundw
            case rel => exact ⟨q + 1, by omega, by go_num, HU2.out⟩
            case measure => simp [intOf]; omega
        · have hqI : ¬ (q : Int) < (nL : Int) := by omega
          clear hql
          go_wp2_with fail
          go_loopw [17] (fun i wr => ∃ q : Nat, q ≤ nX ∧ i = .int .i64 (q : Int) ∧ Below v5.heap.size v5 wr) (fun i _ => nX - (intOf i).toNat)
          case atStart => exact ⟨0, Nat.zero_le _, rfl, HB.out⟩
          case round =>
            clear HB hqI hq
            obtain ⟨q, hq, rfl, hb⟩ := hrel
            have HB := Lib.hid hb
            clear hb
            by_cases hql : q < nX
            · obtain ⟨f, hf⟩ : ∃ f, X[q]? = some f := ⟨X[q]'(by rw [HNX.out]; exact hql), List.getElem?_eq_getElem _⟩
              obtain ⟨rfl, _, c0, c1, c2⟩ := (HKX.out _ HB.out).2 q f hf
              have HG := Lib.hid hf
              have hor := HM3.out f (List.mem_of_getElem? hf)
              have hqI : (q : Int) < (nX : Int) := by omega
              have hqJ : (0 : Int) ≤ (q : Int) := by omega
              have i1 : IntKind.i64.wrap ((q : Int) + 1) = ((q + 1 : Nat) : Int) := by rw [IntWalk.i64_in _ (by omega)]; omega
              have HHY := Lib.hid (fun (v : World) (h : Below v5.heap.size v5 v) => has_any (HKY.out v h) nY HNY.out (by omega) f)
              have HHL := Lib.hid (fun (v : World) (h : Below v5.heap.size v5 v) => has_any (HKL.out v h) nL HNL.out (by omega) f)
              have hor2 : hasF f Y = false ∨ (hasF f Y = true ∧ hasF f L = true) := by
                cases hx : hasF f Y with
                | false => exact .inl rfl
                | true => exact .inr ⟨rfl, (hasF_iff _ _).2 (hor ((hasF_iff _ _).1 hx))⟩
              obtain ⟨f1, f2, f3⟩ := f
              simp only [Nat.zero_add] at c0 c1 c2
              simp only at HHL HHY
              clear hf hor
              rcases hor2 with hx | ⟨hx, hy⟩
              · rw [hx] at HHY
                clear hx HHL
                go_wp2_with (first
                  | (go_at_call 17; (with_reducible refine (HHY.out _ HB.out).mono ?_); rintro _ u1 ⟨rfl, hb⟩; have HU1 := Lib.hid (HB.out.trans (hb.mono HB.out.size)); clear hb)
                  | fail)
                go_wp2_with fail
                go_roundw
                case rel => exact ⟨q + 1, by omega, by go_num, HU1.out⟩
                case measure => simp [intOf]; omega
              · rw [hx] at HHY
                rw [hy] at HHL
                clear hx hy
                go_wp2_with (first
                  | (go_at_call 17; (with_reducible refine (HHY.out _ HB.out).mono ?_); rintro _ u1 ⟨rfl, hb⟩; have HU1 := Lib.hid (HB.out.trans (hb.mono HB.out.size)); obtain ⟨_, _, d0, d1, d2⟩ := (HKX.out _ HU1.out).2 q _ HG.out; simp only [Nat.zero_add] at d0 d1 d2; clear hb)
                  | (go_at_call 17; (with_reducible refine (HHL.out _ HU1.out).mono ?_); rintro _ u2 ⟨rfl, hb⟩; have HU2 := Lib.hid (HU1.out.trans (hb.mono HU1.out.size)); clear hb)
                  | fail)
                go_wp2_with fail
                go_roundw
                case rel => exact ⟨q + 1, by omega, by go_num, HU2.out⟩
                case measure => simp [intOf]; omega
            · have hqI : ¬ (q : Int) < (nX : Int) := by omega
              clear hql
              go_wp2
              go_ret
              exact ⟨rfl, HB5.out.trans (HB.out.mono HB5.out.size)⟩
    · have heb : (e != 0) = true := by simpa using he
      have hbad := threeS_bad (o := a0) (a := a1) (b := a2) (by rw [h1]; exact he)
      rw [h1] at hbad
      obtain ⟨rfl, rfl⟩ := hbad
      clear hbig hTD hM w0 w1 w2 h1 he
      go_enter Tryz.func6, Tryz.ntmps6
      go_wp2_with (first
        | (go_at_call 8; (with_reducible refine (HF.out _ HE.out).mono ?_); rintro _ v1 ⟨rfl, hb⟩; have HB1 := Lib.hid hb; clear hb)
        | (go_at_call 9; (with_reducible refine (HL.out _).mono ?_); rintro _ vz ⟨rfl, hw0⟩; replace hw0 := hw0.symm; subst hw0)
        | (go_at_call 15; (with_reducible refine (HI0.out _).mono ?_); rintro _ v2 ⟨rfl, hb⟩; have HB2 := Lib.hid (HB1.out.trans (hb.mono HB1.out.size)); clear hb)
        | (go_at_call 15; (with_reducible refine (HI1.out _).mono ?_); rintro _ v3 ⟨rfl, hb⟩; have HB3 := Lib.hid (HB2.out.trans (hb.mono HB2.out.size)); clear hb)
        | fail)
      refine (H1.out _ (HE.out.on HB1.out)).mono ?_
      rintro _ v2 ⟨rfl, hb⟩
      have HB2 := Lib.hid (HB1.out.trans (hb.mono HB1.out.size))
      clear hb
      go_wp2
      go_ret
      exact ⟨rfl, HB2.out⟩
end Go.Proofs.YtlcchkpjcekinaaGreatDoor
namespace Go.Proofs.YtlcchkpjcekinaaGreatDoor
open Go.RowKit
open Go.Lib hiding intOf
open Go.Sort Go.Proofs
set_option linter.unusedVariables false
set_option linter.unusedSimpArgs false
set_option maxRecDepth 100000
theorem holdsK_below {w w' : World} {g o : Nat} {d : Array F3} (h : HoldsK encF 3 w g o d) (hb : Below w.heap.size w w') (hg : g < w.heap.size) : HoldsK encF 3 w' g o d := fun t ht => ⟨(hb.cell (p := ⟨g, _, none⟩) hg).trans (h t ht).1, (hb.frozen (p := ⟨g, _, none⟩) hg).trans (h t ht).2⟩
theorem holdsK_set {w : World} {g o : Nat} {d : Array F3} (h : HoldsK encF 3 w g o d) {i : Nat} (hi : i < d.size) (x1 x2 : Int) (x3 : ByteArray) :
    HoldsK encF 3 (((w.setCell ⟨g, o + i * 3, none⟩ (.int .i64 x1)).setCell ⟨g, o + i * 3 + 1, none⟩ (.int .i64 x2)).setCell ⟨g, o + i * 3 + 2, none⟩ (.string x3)) g o (d.setIfInBounds i (x1, x2, x3)) := by
  have e := set3_world (wr := w) (w := w) (m := 0) (g := g) (o := o) (dk := d) (putRowK_self encF 3 w g o d h).symm 0 i hi x1 x2 x3
  have e2 : w.drewN 0 = w := rfl
  rw [e2] at e
  rw [e]
  exact holdsK_putRowK encF 3 _ g o d _ h (by simp)
def kpF (O : List F3) (f : F3) : Bool := !hasF f O
set_option maxHeartbeats 4000000 in
theorem clone_any {w : World} {A : Option Addr} {cap b off : Nat} {L : List F3} (h : Fv w A cap b off L) (n : Nat) (hn : L.length = n) (hs : n ≤ 100000) : Calls Tryz.prog 38 #[.slice A n cap] w fun e w' => ∃ V, e = .returned V ∧ Fr3 w' w.heap.size V n L ∧ Below w.heap.size w w' := by
  have H := Lib.hid h
  have HN := Lib.hid hn
  clear h hn
  obtain ⟨B, hB⟩ : ∃ B, w.heap.size = B := ⟨_, rfl⟩
  have HBB := Lib.hid hB
  obtain ⟨W1, hW1⟩ : ∃ W1, w.alloc (.cells #[] 37) = W1 := ⟨_, rfl⟩
  have HR1 := Lib.hid (show Fr3 W1 B (.slice (some ⟨B, 0, none⟩) 0 0) 0 [] from hB ▸ hW1 ▸ World.ownsRow_made w #[] 0 (Nat.le_refl _) (Nat.zero_le _) rfl)
  have HB1 := Lib.hid (show Below B w W1 from hB ▸ hW1 ▸ (Below.refl _ w).alloc (Nat.le_refl _) _)
  have HW1 := Lib.hid hW1
  rw [hB]
  clear hB hW1
  have q27 : ∀ (w : World) (a : Option Addr) (n c n' c' : Nat), Sem.run Tryz.prog (binOp .eql 27 (.slice a n c) (.slice none n' c')) w = .ok (.bool a.isNone) w := fun w a n c n' c' => Lib.run_eql_slice_nil w _ _ a n c n' c' Tryz.underlying27
  cases A with
  | none =>
    have hL : L = [] := by
      cases L with
      | nil => rfl
      | cons f L => obtain ⟨e, _⟩ := H.out.2 0 f rfl; cases e
    have HL := Lib.hid hL
    clear hL
    go_enter Tryz.func38, Tryz.ntmps38
    go_wp2
    go_ret
    refine ⟨_, rfl, ?_, HBB.out ▸ Below.refl _ _⟩
    have hn := HN.out
    rw [HL.out] at hn ⊢
    obtain rfl : n = 0 := hn.symm
    exact ⟨rfl, .inl ⟨rfl, rfl⟩⟩
  | some ad =>
    have hcells : ∀ j u, (encL L)[j]? = some u → w.cell? (ad.add j) = some u := fun j u hj => by
      cases L with
      | nil => cases hj
      | cons f L =>
        obtain ⟨e, _⟩ := H.out.2 0 f rfl
        cases e
        have := fv_cells H.out 0 j u hj
        rw [Nat.zero_mul, Nat.add_zero] at this
        exact this
    have HC := Lib.hid (fun j u hj => show W1.cell? (ad.add j) = some u from HW1.out ▸ Lib.cell?_alloc_some _ (hcells j u hj))
    clear hcells
    go_enter Tryz.func38, Tryz.ntmps38
    go_wp2_with (first
      | (at_builtin; rw [HW1.out]; go_must (refine fr3_app _ rfl (.tmp 5) (.tmp 6) 27 rfl Tryz.underlying27 info36 B _ 0 [] (by rw [← HBB.out]; rfl) HR1.out ad n cap L HN.out rfl HC.out (by omega) (by have := HB1.out.size; have := HBB.out; omega) ?_))
      | fail)
    intro V' w2 hown hgr
    have HO := Lib.hid hown
    have HB2 := Lib.hid (HB1.out.grown hgr (by have := HB1.out.size; have := HBB.out; omega) (fun k e => (HR1.out.lt k e).1))
    clear hown hgr
    go_wp2
    go_ret
    refine ⟨_, rfl, ?_, HB2.out⟩
    first | exact HO.out | simpa using HO.out
theorem clos_any {w : World} {b0 : Nat} {A : Option Addr} {cap b off : Nat} {O : List F3} (h : Fv w A cap b off O) (n : Nat) (hn : O.length = n) (hs : n ≤ 100000) (hb : Blk w b0 27 #[.slice A n cap]) (f : F3) :
    Calls Tryz.prog 39 #[.agg #[.int .i64 f.1, .int .i64 f.2.1, .string f.2.2], .pointer (some ⟨b0, 0, none⟩)] w fun e w' => e = .returned (.bool (hasF f O)) ∧ Below w.heap.size w w' := by
  obtain ⟨f1, f2, f3⟩ := f
  obtain ⟨W1, hW1⟩ : ∃ W1, w.alloc (.cells #[.int .i64 f1, .int .i64 f2, .string f3] 37) = W1 := ⟨_, rfl⟩
  have HB1 := Lib.hid (show Below w.heap.size w W1 from hW1 ▸ (Below.refl _ w).alloc (Nat.le_refl _) _)
  have HC := Lib.hid (contains_any (h.below HB1.out) n hn hs (f1, f2, f3))
  have z0 : W1.cell? ⟨b0, 0, none⟩ = some (.slice A n cap) := (hb.below HB1.out hb.lt).cell 0
  have hY : Blk W1 w.heap.size 37 #[.int .i64 f1, .int .i64 f2, .string f3] := hW1 ▸ Blk.new w 37 _
  have y0 := hY.cell 0
  have y1 := hY.cell 1
  have y2 := hY.cell 2
  simp only [List.getElem?_toArray, List.getElem?_cons_zero, List.getElem?_cons_succ] at y0 y1 y2
  clear h hn hb hY
  go_enter Tryz.func39, Tryz.ntmps39
  go_wp2_with fail
  try rw [hW1]
  refine HC.out.mono ?_
  rintro _ w2 ⟨rfl, hb⟩
  have HB2 := Lib.hid (HB1.out.trans (hb.mono HB1.out.size))
  clear hb
  go_wp2
  go_ret
  exact ⟨rfl, HB2.out⟩
set_option maxHeartbeats 4000000 in
theorem indexF_any {w : World} {A : Option Addr} {cap b off : Nat} {L : List F3} (h : Fv w A cap b off L) (n : Nat) (hn : L.length = n) (hs : n ≤ 100000) {b0 : Nat} {AO : Option Addr} {cO bO oO : Nat} {O : List F3} (hO : Fv w AO cO bO oO O) (nO : Nat) (hnO : O.length = nO) (hsO : nO ≤ 100000) (hb0 : Blk w b0 27 #[.slice AO nO cO]) :
    Calls Tryz.prog 62 #[.slice A n cap, .func (.func 39) #[] #[.pointer (some ⟨b0, 0, none⟩)]] w fun e w' => ((e = .returned (.int .i64 (-1)) ∧ L.filter (kpF O) = L) ∨ (∃ k : Nat, e = .returned (.int .i64 (k : Int)) ∧ k < n ∧ (L.take (k + 1)).filter (kpF O) = L.take k)) ∧ Below w.heap.size w w' := by
  have H := Lib.hid h
  have HN := Lib.hid hn
  have HCL := Lib.hid (fun (v : World) (hv : Below w.heap.size w v) f => clos_any (hO.below hv) nO hnO hsO (hb0.below hv hb0.lt) f)
  clear h hn hO hb0 hnO
  go_enter Tryz.func62, Tryz.ntmps62
  go_wp2_with fail
  go_loopw [8] (fun i wr => ∃ q : Nat, q ≤ n ∧ i = .int .i64 (q : Int) ∧ (L.take q).filter (kpF O) = L.take q ∧ Below w.heap.size w wr) (fun i _ => n - (intOf i).toNat)
  case atStart => exact ⟨0, Nat.zero_le _, rfl, rfl, Below.refl _ _⟩
  case round =>
    obtain ⟨q, hq, rfl, ht, hb⟩ := hrel
    have HT := Lib.hid ht
    have HB := Lib.hid hb
    clear ht hb
    by_cases hql : q < n
    · obtain ⟨f, hf⟩ : ∃ f, L[q]? = some f := ⟨L[q]'(by rw [HN.out]; exact hql), List.getElem?_eq_getElem _⟩
      obtain ⟨rfl, _, c0, c1, c2⟩ := (H.out.below HB.out).2 q f hf
      have HYES := Lib.hid (fun (hp : kpF O f = true) => (show (L.take (q + 1)).filter (kpF O) = L.take (q + 1) from by rw [filt_yes hf hp, HT.out, List.take_add_one, hf]; rfl))
      have HNO := Lib.hid (fun (hp : kpF O f = false) => (show (L.take (q + 1)).filter (kpF O) = L.take q from by rw [filt_no hf hp, HT.out]))
      have HC := Lib.hid (HCL.out wr HB.out f)
      have hkp : kpF O f = !hasF f O := rfl
      obtain ⟨r, hr⟩ : ∃ r, hasF f O = r := ⟨_, rfl⟩
      rw [hr] at HC hkp
      have HKP := Lib.hid hkp
      obtain ⟨f1, f2, f3⟩ := f
      simp only at c0 c1 c2 HC
      have hqI : (q : Int) < (n : Int) := by omega
      have hqJ : (0 : Int) ≤ (q : Int) := by omega
      have i1 : IntKind.i64.wrap ((q : Int) + 1) = ((q + 1 : Nat) : Int) := by rw [IntWalk.i64_in _ (by omega)]; omega
      clear hf hr hkp
      cases r with
      | true =>
        go_wp2_with (first
          | (go_at_call 39; (with_reducible refine HC.out.mono ?_); rintro _ u1 ⟨rfl, hb⟩; have HU1 := Lib.hid (HB.out.trans (hb.mono HB.out.size)); clear hb)
          | fail)
        go_ret
        exact ⟨.inr ⟨q, rfl, by omega, HNO.out HKP.out⟩, HU1.out⟩
      | false =>
        go_wp2_with (first
          | (go_at_call 39; (with_reducible refine HC.out.mono ?_); rintro _ u1 ⟨rfl, hb⟩; have HU1 := Lib.hid (HB.out.trans (hb.mono HB.out.size)); clear hb)
          | fail)
        go_roundw
        case rel => exact ⟨q + 1, by omega, by go_num, HYES.out HKP.out, HU1.out⟩
        case measure => simp [intOf]; omega
    · have hqe : q = n := by omega
      have hqI : ¬ (q : Int) < (n : Int) := by omega
      have HE := Lib.hid (show L.filter (kpF O) = L from by have := HT.out; rwa [hqe, ← HN.out, List.take_length] at this)
      clear hql hqe
      go_wp2
      go_ret
      refine ⟨.inl ⟨rfl, ?_⟩, HB.out⟩
      have := List.filter_eq_self.1 HE.out
      first | exact HE.out | (intro x1 x2 x3 hm; exact this _ hm)
end Go.Proofs.YtlcchkpjcekinaaGreatDoor
