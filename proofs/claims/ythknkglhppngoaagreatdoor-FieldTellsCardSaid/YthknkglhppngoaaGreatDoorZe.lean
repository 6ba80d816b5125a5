/- Addresses: which is one; which are the same; what is kept. -/
import Derived.Test.YthknkglhppngoaaGreatDoorZd
import Derived.Deep.RegionWith
/- Addresses: what is kept of a text is an address of its own. -/
namespace Go.Proofs.YthknkglhppngoaaGreatDoor
open Go.RowKit
open Go.Lib hiding intOf
set_option linter.unusedVariables false
theorem capB_iff (c : UInt8) : capB c = true ↔ 65 ≤ c.toNat ∧ c.toNat ≤ 90 := by unfold capB; simp only [Bool.and_eq_true, decide_eq_true_eq]; omega
theorem sodB_iff (c : UInt8) : sodB c = true ↔ (97 ≤ c.toNat ∧ c.toNat ≤ 122) ∨ (48 ≤ c.toNat ∧ c.toNat ≤ 57) := by
  unfold sodB lowB numB; simp only [Bool.or_eq_true, Bool.and_eq_true, decide_eq_true_eq]; omega
theorem dotC_range (c : UInt8) (h : dotC c = true) : c.toNat = 46 ∨ c.toNat = 95 ∨ c.toNat = 43 ∨ c.toNat = 45 := by
  unfold dotC at h
  simp only [Bool.or_eq_true, beq_iff_eq] at h
  rcases h with ((h | h) | h) | h <;> subst h <;> decide
theorem locC_range (c : UInt8) (h : locC c = true) : 33 ≤ c.toNat ∧ c.toNat ≤ 122 ∧ c ≠ 64 := by
  unfold locC at h
  simp only [Bool.or_eq_true] at h
  have h64 : (64 : UInt8).toNat = 64 := rfl
  rcases h with (h | h) | h
  · have := (capB_iff c).1 h; exact ⟨by omega, by omega, fun e => by rw [e] at this; omega⟩
  · have := (sodB_iff c).1 h; exact ⟨by omega, by omega, fun e => by rw [e] at this; omega⟩
  · have := dotC_range c h; exact ⟨by omega, by omega, fun e => by rw [e] at this; omega⟩
theorem labC_range (c : UInt8) (h : labC c = true) : 33 ≤ c.toNat ∧ c.toNat ≤ 122 ∧ c ≠ 64 ∧ capB c = false := by
  unfold labC at h
  simp only [Bool.or_eq_true, beq_iff_eq] at h
  have h64 : (64 : UInt8).toNat = 64 := rfl
  have key : ((97 ≤ c.toNat ∧ c.toNat ≤ 122) ∨ (48 ≤ c.toNat ∧ c.toNat ≤ 57)) ∨ c.toNat = 45 := by
    rcases h with h | h
    · exact .inl ((sodB_iff c).1 h)
    · exact .inr (by omega)
  refine ⟨by omega, by omega, fun e => by rw [e] at key; omega, ?_⟩
  cases hc : capB c with
  | false => rfl
  | true => have := (capB_iff c).1 hc; omega
theorem label_chars {l : List UInt8} (h : labelB l = true) : ∀ c ∈ l, labC c = true := by
  unfold labelB at h
  simp only [Bool.and_eq_true, List.all_eq_true] at h
  exact h.2
theorem split_mem : ∀ (l : List UInt8) (c : UInt8), c ∈ l → c = 46 ∨ ∃ p ∈ splitL l, c ∈ p := by
  intro l
  induction l with
  | nil => intro c h; cases h
  | cons x t ih =>
    intro c h
    rw [split_cons]
    by_cases hx : x = 46
    · rw [if_pos hx]
      rcases List.mem_cons.1 h with e | e
      · exact .inl (e.trans hx)
      · rcases ih c e with h1 | ⟨p, hp, hc⟩
        · exact .inl h1
        · exact .inr ⟨p, List.mem_cons_of_mem _ hp, hc⟩
    · rw [if_neg hx]
      cases hs : splitL t with
      | nil => exact absurd hs (split_ne t)
      | cons hd r =>
        rw [hs] at ih
        rcases List.mem_cons.1 h with e | e
        · exact .inr ⟨x :: hd, by simp, by rw [e]; simp⟩
        · rcases ih c e with h1 | ⟨p, hp, hc⟩
          · exact .inl h1
          · rcases List.mem_cons.1 hp with hp | hp
            · exact .inr ⟨x :: hd, by simp, by rw [← hp]; exact List.mem_cons_of_mem _ hc⟩
            · exact .inr ⟨p, List.mem_cons_of_mem _ hp, hc⟩
theorem dom_chars {l : List UInt8} (h : (splitL l).all labelB = true) : ∀ c ∈ l, c = 46 ∨ labC c = true := by
  intro c hc
  rw [List.all_eq_true] at h
  rcases split_mem l c hc with e | ⟨p, hp, h2⟩
  · exact .inl e
  · exact .inr (label_chars (h p hp) c h2)
theorem dom_range {l : List UInt8} (h : (splitL l).all labelB = true) : ∀ c ∈ l, 33 ≤ c.toNat ∧ c.toNat ≤ 122 ∧ c ≠ 64 ∧ low c = c := by
  intro c hc
  rcases dom_chars h c hc with e | e
  · subst e; decide
  · obtain ⟨h1, h2, h3, h4⟩ := labC_range c e
    refine ⟨h1, h2, h3, ?_⟩
    unfold low
    rw [if_neg]
    intro hh
    have : capB c = true := (capB_iff c).2 (by omega)
    rw [this] at h4; cases h4
/-- An address: its two parts. -/
structure Addrs (x a b : List UInt8) : Prop where
  eq : x = a ++ 64 :: b
  len : x.length ≤ 64
  loc : localB a = true
  dom : domB b = true
  na : (64 : UInt8) ∉ a
  nb : (64 : UInt8) ∉ b
theorem local_chars {l : List UInt8} (h : localB l = true) : ∀ c ∈ l, locC c = true := by
  unfold localB at h
  simp only [Bool.and_eq_true, List.all_eq_true] at h
  exact h.2
theorem dom_all {l : List UInt8} (h : domB l = true) : (splitL l).all labelB = true := by
  unfold domB at h
  rw [Bool.and_eq_true] at h
  exact h.2
theorem mail_parts (x : List UInt8) (h : mailB x = true) : Addrs x (cut x [64]).1 (cut x [64]).2.1 := by
  unfold mailB at h
  simp only [Bool.and_eq_true, decide_eq_true_eq] at h
  obtain ⟨⟨⟨h1, h2⟩, h3⟩, h4⟩ := h
  by_cases hm : (64 : UInt8) ∈ x
  · obtain ⟨a, b, e, ha⟩ := first_at x 64 hm
    rw [e, cut_has a b 64 ha] at h3 h4
    rw [e, cut_has a b 64 ha]
    refine ⟨rfl, by rw [← e]; omega, h3, h4, ha, fun hb => ?_⟩
    exact (dom_range (dom_all h4) 64 hb).2.2.1 rfl
  · rw [cut_not x 64 hm] at h1; cases h1
theorem mail_mk {x a b : List UInt8} (h : Addrs x a b) : mailB x = true ∧ cut x [64] = (a, b, true) := by
  have hc := cut_has a b 64 h.na
  rw [← h.eq] at hc
  refine ⟨?_, hc⟩
  unfold mailB
  rw [hc, h.loc, h.dom, decide_eq_true (by have := h.len; omega)]
  rfl
theorem addrs_range {x a b : List UInt8} (h : Addrs x a b) : ∀ c ∈ x, 33 ≤ c.toNat ∧ c.toNat ≤ 122 := by
  intro c hc
  rw [h.eq] at hc
  rcases List.mem_append.1 hc with hc | hc
  · have := locC_range c (local_chars h.loc c hc); exact ⟨this.1, this.2.1⟩
  · rcases List.mem_cons.1 hc with e | hc
    · subst e; decide
    · have := dom_range (dom_all h.dom) c hc; exact ⟨this.1, this.2.1⟩
theorem sq_solid (l : List UInt8) (h : ∀ c ∈ l, c ≠ 32) : sq l = l := by
  show (run (false, []) l).2 = l
  rw [run_solid l [] h]; rfl
theorem ascii_valid : ∀ (l : List UInt8), (∀ c ∈ l, c.toNat < 128) → validD l = true
  | [], _ => rfl
  | c :: t, h => by rw [validD_cons c t (h c (by simp))]; exact ascii_valid t (fun d hd => h d (by simp [hd]))
theorem plain_ctl (l : List UInt8) (h : ∀ c ∈ l, 32 ≤ c.toNat ∧ c.toNat ≤ 126) : l.any ctl = false := by
  rw [List.any_eq_false]
  intro c hc
  have := h c hc
  unfold ctl
  simp only [Bool.or_eq_true, decide_eq_true_eq, beq_iff_eq]
  omega
theorem bs_list (l : List UInt8) : (⟨l.toArray⟩ : ByteArray).data.toList = l := rfl
theorem app_list (a b : ByteArray) : (a ++ b).data.toList = a.data.toList ++ b.data.toList := by simp [ByteArray.data_append]
theorem clean_of (x : List UInt8) (h : ∀ c ∈ x, 32 ≤ c.toNat ∧ c.toNat ≤ 126) (hn : sq x ≠ []) (hl : (sq x).length ≤ 64) : cleanS ⟨x.toArray⟩ = (⟨(sq x).toArray⟩, 0) := by
  unfold cleanS
  rw [bs_list, ascii_valid x (fun c hc => by have := h c hc; omega), plain_ctl x h, squeezeS_sq, bs_list]
  unfold cleanOf
  rw [if_neg (by decide), if_neg (fun e => hn (by have := congrArg (fun b : ByteArray => b.data.toList) e; simpa using this)), if_neg (by
    show ¬ (64 < (((sq x).toArray.size : Nat) : Int))
    simp; omega)]
/-- The last @ of a text. -/
theorem at_spec (t : ByteArray) (a b : List UInt8) (e : t.data.toList = a ++ 64 :: b) (hb : (64 : UInt8) ∉ b) : atN t = a.length + 1 := by
  have hsz : t.size = a.length + 1 + b.length := by
    have : t.data.toList.length = t.size := by simp
    rw [e] at this; simp at this; omega
  have get : ∀ j (h : j < t.size), t.data[j]! = t.data.toList[j]'(by simpa using h) := by
    intro j h
    rw [getElem!_pos t.data j (by simpa using h)]
    simp
  unfold atN lastIndexByte
  rcases lastIdx_spec t 64 t.size with ⟨h1, h2⟩ | ⟨i, hi, h1, h2, h3⟩
  · exfalso
    have h4 := h2 a.length (by omega)
    rw [get a.length (by omega)] at h4
    apply h4
    have : t.data.toList[a.length]'(by simp; omega) = 64 := by simp only [e]; rw [List.getElem_append_right (Nat.le_refl _)]; simp
    rw [this]; rfl
  · rw [h1]
    have hia : i = a.length := by
      rcases Nat.lt_trichotomy i a.length with h | h | h
      · exfalso
        have h4 := h3 a.length h (by omega)
        rw [get a.length (by omega)] at h4
        apply h4
        have : t.data.toList[a.length]'(by simp; omega) = 64 := by simp only [e]; rw [List.getElem_append_right (Nat.le_refl _)]; simp
        rw [this]; rfl
      · exact h
      · exfalso
        rw [get i hi] at h2
        obtain ⟨m, rfl⟩ : ∃ m, i = a.length + 1 + m := ⟨i - (a.length + 1), by omega⟩
        have h5 : t.data.toList[a.length + 1 + m]'(by simpa using hi) ∈ b := by
          have : t.data.toList[a.length + 1 + m]'(by simpa using hi) = b[m]'(by omega) := by
            simp only [e]
            rw [List.getElem_append_right (by omega)]
            have hm : a.length + 1 + m - a.length = m + 1 := by omega
            simp only [hm, List.getElem_cons_succ]
          rw [this]; exact List.getElem_mem _
        have h6 : t.data.toList[a.length + 1 + m]'(by simpa using hi) = 64 := UInt8.toNat_inj.1 (by show _ = 64; omega)
        rw [h6] at h5; exact hb h5
    rw [hia]; omega
theorem lowAt_spec (t : ByteArray) (a b : List UInt8) (e : t.data.toList = a ++ 64 :: b) (hb : (64 : UInt8) ∉ b) : (lowAt t).data.toList = a ++ 64 :: lowL b := by
  have hn := at_spec t a b e hb
  have hsz : t.data.toList.length = t.size := by simp
  unfold lowAt
  rw [hn, app_list]
  have h1 : (t.extract 0 (a.length + 1)).data.toList = t.data.toList.take (a.length + 1) := by simp
  have h2 : (t.extract (a.length + 1) t.size).data.toList = t.data.toList.drop (a.length + 1) := by simp [List.take_of_length_le]
  rw [h1]
  show _ ++ lowL ((t.extract (a.length + 1) t.size).data.toList) = _
  rw [h2, e, show a ++ 64 :: b = (a ++ [64]) ++ b by simp, List.take_left' (by simp), List.drop_left' (by simp)]
  simp
theorem lowL_id (b : List UInt8) (h : ∀ c ∈ b, low c = c) : lowL b = b := by
  unfold lowL
  exact (List.map_congr_left h).trans (List.map_id b)
theorem mail_self {x : List UInt8} (h : mailB x = true) : mailS ⟨x.toArray⟩ = (⟨x.toArray⟩, 0) := by
  have A := mail_parts x h
  have hr := addrs_range A
  have hs : sq x = x := sq_solid x (fun c hc => by intro e; have := hr c hc; rw [e] at this; exact absurd this (by decide))
  have hc := clean_of x (fun c hc => by have := hr c hc; omega) (by rw [hs, A.eq]; simp) (by rw [hs]; exact A.len)
  rw [hs] at hc
  have hl : lowAt ⟨x.toArray⟩ = ⟨x.toArray⟩ := bs_ext (by
    rw [lowAt_spec ⟨x.toArray⟩ _ _ A.eq A.nb, lowL_id _ (fun c hc => (dom_range (dom_all A.dom) c hc).2.2.2)]
    exact A.eq.symm)
  unfold mailS mailOf
  rw [hc, if_pos rfl, hl, if_pos h]
theorem mail_cases (s : ByteArray) : ((mailS s).2 = 0 ∧ mailB (mailS s).1.data.toList = true) ∨ ((mailS s).2 ≠ 0 ∧ (mailS s).1 = ⟨#[]⟩ ∧ mailB s.data.toList = false) := by
  by_cases h : mailB s.data.toList = true
  · have := mail_self h
    have e : (⟨s.data.toList.toArray⟩ : ByteArray) = s := rfl
    rw [e] at this
    left
    rw [this]
    exact ⟨rfl, h⟩
  · have h' : mailB s.data.toList = false := by simpa using h
    unfold mailS mailOf
    by_cases hk : (cleanS s).2 = 0
    · rw [if_pos hk]
      by_cases ht : mailB (lowAt (cleanS s).1).data.toList = true
      · rw [if_pos ht]; exact .inl ⟨rfl, ht⟩
      · rw [if_neg ht]; exact .inr ⟨by simp, rfl, h'⟩
    · rw [if_neg hk]; exact .inr ⟨hk, rfl, h'⟩
/-- Great letters for small ones. -/
def upC (c : UInt8) : UInt8 := if 97 ≤ (c.toNat : Int) ∧ (c.toNat : Int) ≤ 122 then UInt8.ofNat (c.toNat - 32) else c
theorem up_low (c : UInt8) (h : low c = c) : low (upC c) = c ∧ ((33 ≤ c.toNat ∧ c.toNat ≤ 122 ∧ c ≠ 64) → 33 ≤ (upC c).toNat ∧ (upC c).toNat ≤ 122 ∧ upC c ≠ 64) := by
  have h64 : (64 : UInt8).toNat = 64 := rfl
  unfold upC
  by_cases hc : 97 ≤ (c.toNat : Int) ∧ (c.toNat : Int) ≤ 122
  · rw [if_pos hc]
    have hn : (UInt8.ofNat (c.toNat - 32)).toNat = c.toNat - 32 := by rw [UInt8.toNat_ofNat']; omega
    refine ⟨?_, fun _ => ⟨by omega, by omega, fun e => by rw [e] at hn; omega⟩⟩
    unfold low
    rw [if_pos (by omega)]
    apply UInt8.toNat_inj.1
    rw [UInt8.toNat_ofNat', hn]
    omega
  · rw [if_neg hc]; exact ⟨h, fun h => h⟩
theorem mail_great {x : List UInt8} (h : mailB x = true) : mailS ⟨([32, 32] ++ (cut x [64]).1 ++ [64] ++ (cut x [64]).2.1.map upC ++ [32]).toArray⟩ = (⟨x.toArray⟩, 0) := by
  have A := mail_parts x h
  obtain ⟨a, ha⟩ : ∃ a, (cut x [64]).1 = a := ⟨_, rfl⟩
  obtain ⟨b, hb⟩ : ∃ b, (cut x [64]).2.1 = b := ⟨_, rfl⟩
  rw [ha, hb] at A ⊢
  have hd := dom_range (dom_all A.dom)
  have hu : ∀ c ∈ b.map upC, 33 ≤ c.toNat ∧ c.toNat ≤ 122 ∧ c ≠ 64 := by
    intro c hc
    obtain ⟨d, hdm, rfl⟩ := List.mem_map.1 hc
    have := hd d hdm
    exact (up_low d this.2.2.2).2 ⟨this.1, this.2.1, this.2.2.1⟩
  have hall : ∀ c ∈ a ++ 64 :: b.map upC, 33 ≤ c.toNat ∧ c.toNat ≤ 122 := by
    intro c hc
    rcases List.mem_append.1 hc with hc | hc
    · have := locC_range c (local_chars A.loc c hc); exact ⟨this.1, this.2.1⟩
    · rcases List.mem_cons.1 hc with e | hc
      · subst e; decide
      · have := hu c hc; exact ⟨this.1, this.2.1⟩
  have hs : sq ([32, 32] ++ a ++ [64] ++ b.map upC ++ [32]) = a ++ 64 :: b.map upC := by
    have e : [32, 32] ++ a ++ [64] ++ b.map upC ++ [32] = 32 :: 32 :: ((a ++ 64 :: b.map upC) ++ [32]) := by simp
    rw [e, sq_blanks]
    exact sq_solid _ (fun c hc => by intro e; have := hall c hc; rw [e] at this; exact absurd this (by decide))
  have hl : (a ++ 64 :: b.map upC).length ≤ 64 := by
    have h1 := A.len
    rw [A.eq] at h1
    simpa using h1
  have hc := clean_of ([32, 32] ++ a ++ [64] ++ b.map upC ++ [32]) (by
    intro c hc
    have hm : c = 32 ∨ c ∈ a ++ 64 :: b.map upC := by
      simp only [List.mem_append, List.mem_cons, List.not_mem_nil, or_false] at hc ⊢
      rcases hc with (((h | h) | h) | h) | h
      · exact .inl (by rcases h with h | h <;> exact h)
      · exact .inr (.inl h)
      · exact .inr (.inr (.inl h))
      · exact .inr (.inr (.inr h))
      · exact .inl h
    rcases hm with e | e
    · subst e; decide
    · have := hall c e; omega) (by rw [hs]; simp) (by rw [hs]; exact hl)
  rw [hs] at hc
  have hlow : lowAt ⟨(a ++ 64 :: b.map upC).toArray⟩ = ⟨x.toArray⟩ := bs_ext (by
    rw [lowAt_spec ⟨(a ++ 64 :: b.map upC).toArray⟩ a (b.map upC) rfl (fun hm => (hu 64 hm).2.2 rfl)]
    have : lowL (b.map upC) = b := by
      unfold lowL
      rw [List.map_map]
      exact (List.map_congr_left (fun c hc => (up_low c (hd c hc).2.2.2).1)).trans (List.map_id b)
    rw [this]; exact A.eq.symm)
  unfold mailS mailOf
  rw [hc, if_pos rfl, hlow, if_pos h]
end Go.Proofs.YthknkglhppngoaaGreatDoor
/- Addresses: local parts; the two parts; which is one; which are the same; what is kept. -/
namespace Go.Proofs.YthknkglhppngoaaGreatDoor
open Go.RowKit
open Go.Lib hiding intOf
set_option linter.unusedVariables false
set_option maxRecDepth 20000
theorem dot_index (c : UInt8) : (dotC c = true ∧ (∃ j : Int, 0 ≤ j ∧ indexByte [46, 95, 43, 45] c = j)) ∨ (dotC c = false ∧ indexByte [46, 95, 43, 45] c = -1) := by
  cases h : dotC c with
  | true =>
    refine .inl ⟨rfl, _, ?_, rfl⟩
    unfold dotC at h
    simp only [Bool.or_eq_true, beq_iff_eq] at h
    rcases h with ((h | h) | h) | h <;> subst h <;> decide
  | false =>
    refine .inr ⟨rfl, ?_⟩
    unfold dotC at h
    simp only [Bool.or_eq_false_iff, beq_eq_false_iff_ne] at h
    obtain ⟨⟨⟨h1, h2⟩, h3⟩, h4⟩ := h
    simp only [indexByte, beq_iff_eq, h1.symm, h2.symm, h3.symm, h4.symm, if_false, if_true]
set_option maxHeartbeats 4000000 in
theorem isLocal_any (s : ByteArray) (hs : s.size ≤ 1000000) (w : World) (hM : Mx w) : Calls Tryz.prog 75 #[.string s] w fun e w' => e = .returned (.bool (localB s.data.toList)) ∧ w' = w := by
  have hsl : s.data.toList.length = s.size := by simp
  obtain ⟨m, hm⟩ := hM
  have hz1 : ((⟨#[46]⟩ : ByteArray) ++ s).size = s.size + 1 := by rw [ByteArray.size_append]; show 1 + _ = _; omega
  have hz2 : (((⟨#[46]⟩ : ByteArray) ++ s) ++ ⟨#[46]⟩).size = s.size + 2 := by rw [ByteArray.size_append, hz1]; show _ + 1 + 1 = _; rfl
  have hC := Tryz.strings_Contains (((⟨#[46]⟩ : ByteArray) ++ s) ++ ⟨#[46]⟩) ⟨#[46, 46]⟩ m w (by omega) hm
  have hpl : (((⟨#[46]⟩ : ByteArray) ++ s) ++ ⟨#[46]⟩).data.toList = [46] ++ s.data.toList ++ [46] := by rw [app_list, app_list]
  rw [hpl, show (⟨#[46, 46]⟩ : ByteArray).data.toList = [46, 46] from rfl, contains_adj] at hC
  have hr0 : localB s.data.toList = (decide (1 ≤ (s.size : Int)) && decide ((s.size : Int) ≤ 32) && !adj ([46] ++ s.data.toList ++ [46]) && s.data.toList.all locC) := by
    unfold localB; rw [hsl]
  obtain ⟨r, hr⟩ : ∃ r, localB s.data.toList = r := ⟨_, rfl⟩
  obtain ⟨ad, had⟩ : ∃ r, adj ([46] ++ s.data.toList ++ [46]) = r := ⟨_, rfl⟩
  rw [hr, had] at hr0
  rw [hr]
  rw [had] at hC
  have HR := Lib.hid hr0
  have HC0 := Lib.hid hC
  have hsI : (s.size : Int) ≤ 1000000 := by omega
  have hq1 : ((⟨#[46]⟩ : ByteArray).size : Int) = 1 := rfl
  have hz1I : (((⟨#[46]⟩ : ByteArray) ++ s).size : Int) = (s.size : Int) + 1 := by omega
  clear hr0 hr hsl hC hz1 hz2 hpl had hm
  by_cases h1 : (s.size : Int) < 1
  · have H0 := Lib.hid (show r = false by rw [HR.out, decide_eq_false (by omega)]; rfl)
    clear hz1I
    go_enter Tryz.func75, Tryz.ntmps75
    go_wp2
    go_ret
    exact ⟨by rw [H0.out]; rfl, rfl⟩
  · by_cases h32 : (s.size : Int) > 32
    · have H0 := Lib.hid (show r = false by rw [HR.out, decide_eq_false (show ¬ (s.size : Int) ≤ 32 by omega)]; simp)
      clear hz1I
      go_enter Tryz.func75, Tryz.ntmps75
      go_wp2
      go_ret
      exact ⟨by rw [H0.out]; rfl, rfl⟩
    · have HR2 := Lib.hid (show r = (!ad && s.data.toList.all locC) by rw [HR.out, decide_eq_true (by omega), decide_eq_true (by omega)]; rfl)
      clear HR
      cases ad with
      | true =>
        have H0 := Lib.hid (show r = false by rw [HR2.out]; rfl)
        go_enter Tryz.func75, Tryz.ntmps75
        go_wp2_with (go_at_call 87; (with_reducible refine (HC0.out).mono ?_); rintro e w1 ⟨rfl, hw⟩; replace hw := hw.symm; subst hw)
        go_ret
        exact ⟨by rw [H0.out]; rfl, rfl⟩
      | false =>
        have HR3 := Lib.hid (show r = s.data.toList.all locC by rw [HR2.out]; rfl)
        have HS := Lib.hid sod_any
        have HIB := Lib.hid (fun (c : UInt8) w => Tryz.strings_IndexByte ⟨#[46, 95, 43, 45]⟩ (c.toNat : Int) w)
        clear HR2
        go_enter Tryz.func75, Tryz.ntmps75
        go_wp2_with (go_at_call 87; (with_reducible refine (HC0.out).mono ?_); rintro e w1 ⟨rfl, hw⟩; replace hw := hw.symm; subst hw)
        go_loop [21] (fun i => ∃ k : Nat, k ≤ s.size ∧ i = .int .i64 (k : Int) ∧ (s.data.toList.take k).all locC = true) (fun i => s.size - (intOf i).toNat)
        case atStart => exact ⟨0, Nat.zero_le _, rfl, by simp⟩
        case round =>
          obtain ⟨k, hk, rfl, hno⟩ := hrel
          have HN := Lib.hid hno
          clear hno hz1I
          by_cases hlt : k < s.size
          · have HT := Lib.hid (take_snoc_all locC s k hlt)
            have HM := Lib.hid (miss_all locC s k hlt)
            obtain ⟨c, hc⟩ : ∃ c, s[k] = c := ⟨_, rfl⟩
            rw [hc] at HT HM
            have hc8 : (c.toNat : Int) ≤ 255 := by have := c.toNat_lt; omega
            have HC := Lib.hid (fun w => HS.out c w)
            have hi1 := HIB.out c
            have e8 : (c.toNat : Int).toNat.toUInt8 = c := by simp
            rw [e8] at hi1
            by_cases hcap : 65 ≤ (c.toNat : Int) ∧ (c.toNat : Int) ≤ 90
            · have HE := Lib.hid (show (s.data.toList.take (k + 1)).all locC = true by
                rw [HT.out, HN.out]; unfold locC capB; rw [decide_eq_true hcap.1, decide_eq_true hcap.2]; rfl)
              obtain ⟨g1, g2⟩ := hcap
              clear hi1 e8
              go_wp2
              exact ⟨⟨k + 1, by omega, by go_num, HE.out⟩, by simp [intOf]; omega⟩
            · have hcf : capB c = false := by
                unfold capB
                rw [Bool.and_eq_false_iff]
                by_cases h : 65 ≤ (c.toNat : Int)
                · right; exact decide_eq_false (fun e => hcap ⟨h, e⟩)
                · left; exact decide_eq_false h
              have HCF := Lib.hid hcf
              have hsplit : ¬ (65 ≤ (c.toNat : Int)) ∨ (65 ≤ (c.toNat : Int) ∧ ¬ (c.toNat : Int) ≤ 90) := by
                by_cases h : 65 ≤ (c.toNat : Int)
                · exact .inr ⟨h, fun e => hcap ⟨h, e⟩⟩
                · exact .inl h
              clear hcf hcap
              cases hd : sodB c with
              | true =>
                rw [hd] at HC
                have HE := Lib.hid (show (s.data.toList.take (k + 1)).all locC = true by rw [HT.out, HN.out]; unfold locC; rw [hd]; simp)
                clear hd hi1 e8
                rcases hsplit with g | ⟨g1, g⟩
                · have g' : decide (65 ≤ (c.toNat : Int)) = false := by simpa using g
                  go_wp2_with (go_at_call 88; (with_reducible refine (HC.out _).mono ?_); rintro e w1 ⟨rfl, hw⟩; replace hw := hw.symm; subst hw)
                  exact ⟨⟨k + 1, by omega, by go_num, HE.out⟩, by simp [intOf]; omega⟩
                · have g' : decide ((c.toNat : Int) ≤ 90) = false := by simpa using g
                  go_wp2_with (go_at_call 88; (with_reducible refine (HC.out _).mono ?_); rintro e w1 ⟨rfl, hw⟩; replace hw := hw.symm; subst hw)
                  exact ⟨⟨k + 1, by omega, by go_num, HE.out⟩, by simp [intOf]; omega⟩
              | false =>
                rw [hd] at HC
                rcases dot_index c with ⟨b1, j, hj, b2⟩ | ⟨b1, b2⟩
                · rw [b2] at hi1
                  have HI1 := Lib.hid hi1
                  have HE := Lib.hid (show (s.data.toList.take (k + 1)).all locC = true by rw [HT.out, HN.out]; unfold locC; rw [b1]; simp)
                  have hj' : ¬ j < 0 := by omega
                  clear hi1 b2 b1 e8 hd
                  rcases hsplit with g | ⟨g1, g⟩
                  · have g' : decide (65 ≤ (c.toNat : Int)) = false := by simpa using g
                    go_wp2_with (first | (go_at_call 88; (with_reducible refine (HC.out _).mono ?_); rintro e w1 ⟨rfl, hw⟩; replace hw := hw.symm; subst hw) | (go_at_call 55; (with_reducible refine (HI1.out _).mono ?_); rintro e w1 ⟨rfl, hw⟩; replace hw := hw.symm; subst hw))
                    exact ⟨⟨k + 1, by omega, by go_num, HE.out⟩, by simp [intOf]; omega⟩
                  · have g' : decide ((c.toNat : Int) ≤ 90) = false := by simpa using g
                    go_wp2_with (first | (go_at_call 88; (with_reducible refine (HC.out _).mono ?_); rintro e w1 ⟨rfl, hw⟩; replace hw := hw.symm; subst hw) | (go_at_call 55; (with_reducible refine (HI1.out _).mono ?_); rintro e w1 ⟨rfl, hw⟩; replace hw := hw.symm; subst hw))
                    exact ⟨⟨k + 1, by omega, by go_num, HE.out⟩, by simp [intOf]; omega⟩
                · rw [b2] at hi1
                  have HI1 := Lib.hid hi1
                  have H0 := Lib.hid (show r = false by rw [HR3.out]; exact HM.out (by unfold locC; rw [b1, hd, HCF.out]; rfl))
                  clear hi1 b2 b1 e8 hd
                  rcases hsplit with g | ⟨g1, g⟩
                  · have g' : decide (65 ≤ (c.toNat : Int)) = false := by simpa using g
                    go_wp2_with (first | (go_at_call 88; (with_reducible refine (HC.out _).mono ?_); rintro e w1 ⟨rfl, hw⟩; replace hw := hw.symm; subst hw) | (go_at_call 55; (with_reducible refine (HI1.out _).mono ?_); rintro e w1 ⟨rfl, hw⟩; replace hw := hw.symm; subst hw))
                    go_ret
                    exact ⟨by rw [H0.out]; rfl, rfl⟩
                  · have g' : decide ((c.toNat : Int) ≤ 90) = false := by simpa using g
                    go_wp2_with (first | (go_at_call 88; (with_reducible refine (HC.out _).mono ?_); rintro e w1 ⟨rfl, hw⟩; replace hw := hw.symm; subst hw) | (go_at_call 55; (with_reducible refine (HI1.out _).mono ?_); rintro e w1 ⟨rfl, hw⟩; replace hw := hw.symm; subst hw))
                    go_ret
                    exact ⟨by rw [H0.out]; rfl, rfl⟩
          · have hks : k = s.size := by omega
            subst hks
            have H0 := Lib.hid (show r = true by rw [HR3.out, ← HN.out, List.take_of_length_le (by simp)])
            go_wp2
            go_ret
            exact ⟨by rw [H0.out]; rfl, rfl⟩
/-- What Parts tells. -/
def partsOf (p q : ByteArray) (found : Bool) (n : Nat) : ByteArray × ByteArray × Bool := if (found && decide ((n : Int) ≤ 64) && localB p.data.toList && domB q.data.toList) = true then (p, q, true) else (⟨#[]⟩, ⟨#[]⟩, false)
def partsS (s : ByteArray) : ByteArray × ByteArray × Bool := partsOf ⟨(cut s.data.toList [64]).1.toArray⟩ ⟨(cut s.data.toList [64]).2.1.toArray⟩ (cut s.data.toList [64]).2.2 s.size
theorem parts_mail (s : ByteArray) : partsS s = if mailB s.data.toList = true then (⟨(cut s.data.toList [64]).1.toArray⟩, ⟨(cut s.data.toList [64]).2.1.toArray⟩, true) else (⟨#[]⟩, ⟨#[]⟩, false) := by
  unfold partsS partsOf mailB
  have : s.data.toList.length = s.size := by simp
  rw [this, bs_list, bs_list]
theorem parts_ok (s : ByteArray) : (partsS s).2.2 = mailB s.data.toList := by
  rw [parts_mail]
  cases h : mailB s.data.toList <;> simp
theorem cut_len (l : List UInt8) : (cut l [64]).1.length ≤ l.length ∧ (cut l [64]).2.1.length ≤ l.length := by
  by_cases h : (64 : UInt8) ∈ l
  · obtain ⟨a, b, e, ha⟩ := first_at l 64 h
    rw [e, cut_has a b 64 ha]; simp; omega
  · rw [cut_not l 64 h]; simp
set_option maxHeartbeats 4000000 in
theorem parts_any (s : ByteArray) (hs : s.size ≤ 1000000) (w : World) (hM : Mx w) : Calls Tryz.prog 60 #[.string s] w fun e w' => e = .returned (.tuple #[.string (partsS s).1, .string (partsS s).2.1, .bool (partsS s).2.2]) ∧ Below w.heap.size w w' := by
  have hlt := hM.lt
  have HMx := Lib.hid hM
  obtain ⟨m, hm⟩ := hM
  have hC := Tryz.strings_Cut s ⟨#[64]⟩ m w (by omega) hm
  have hcl := cut_len s.data.toList
  have hsl : s.data.toList.length = s.size := by simp
  have hr0 : partsS s = partsOf ⟨(cut s.data.toList [64]).1.toArray⟩ ⟨(cut s.data.toList [64]).2.1.toArray⟩ (cut s.data.toList [64]).2.2 s.size := rfl
  rw [show (⟨#[64]⟩ : ByteArray).data.toList = [64] from rfl] at hC
  obtain ⟨p, hp⟩ : ∃ p : ByteArray, (⟨(cut s.data.toList [64]).1.toArray⟩ : ByteArray) = p := ⟨_, rfl⟩
  obtain ⟨q, hq⟩ : ∃ q : ByteArray, (⟨(cut s.data.toList [64]).2.1.toArray⟩ : ByteArray) = q := ⟨_, rfl⟩
  obtain ⟨fd, hf⟩ : ∃ f, (cut s.data.toList [64]).2.2 = f := ⟨_, rfl⟩
  have hps : p.size ≤ 1000000 := by rw [← hp]; show (cut s.data.toList [64]).1.toArray.size ≤ _; rw [List.size_toArray]; omega
  have hqs : q.size ≤ 1000000 := by rw [← hq]; show (cut s.data.toList [64]).2.1.toArray.size ≤ _; rw [List.size_toArray]; omega
  rw [hp, hq, hf] at hr0 hC
  obtain ⟨r, hr⟩ : ∃ r, partsS s = r := ⟨_, rfl⟩
  rw [hr] at hr0 ⊢
  have HR := Lib.hid (show r = if (fd && decide ((s.size : Int) ≤ 64) && localB p.data.toList && domB q.data.toList) = true then (p, q, true) else (⟨#[]⟩, ⟨#[]⟩, false) from hr0)
  have HC := Lib.hid hC
  have HL := Lib.hid (fun w h => isLocal_any p hps w h)
  have HD := Lib.hid (fun w h => isDomain_any q hqs w h)
  have hsI : (s.size : Int) ≤ 1000000 := by omega
  obtain ⟨lo, hlo⟩ : ∃ l, localB p.data.toList = l := ⟨_, rfl⟩
  obtain ⟨dm, hdm⟩ : ∃ l, domB q.data.toList = l := ⟨_, rfl⟩
  rw [hlo] at HL HR
  rw [hdm] at HD HR
  have HMd := Lib.hid (fun n => (show Mx (w.drewN n) from HMx.out))
  clear hr0 hr hC hcl hsl hp hq hf hps hqs hlo hdm hm
  cases fd with
  | false =>
    have H0 := Lib.hid (show r = (⟨#[]⟩, ⟨#[]⟩, false) by rw [HR.out]; rfl)
    go_enter Tryz.func60, Tryz.ntmps60
    go_wp2_with (first | (go_at_call 22; (with_reducible refine (HC.out).mono ?_); rintro e w1 ⟨rfl, n1, hw⟩; subst hw))
    go_ret3
    exact ⟨by rw [H0.out]; rfl, below_drewN (Below.refl _ _) _⟩
  | true =>
    by_cases h64 : (s.size : Int) > 64
    · have h64' : decide ((s.size : Int) ≤ 64) = false := by simpa using h64
      have H0 := Lib.hid (show r = (⟨#[]⟩, ⟨#[]⟩, false) by rw [HR.out, h64']; rfl)
      go_enter Tryz.func60, Tryz.ntmps60
      go_wp2_with (first | (go_at_call 22; (with_reducible refine (HC.out).mono ?_); rintro e w1 ⟨rfl, n1, hw⟩; subst hw))
      go_ret3
      exact ⟨by rw [H0.out]; rfl, below_drewN (Below.refl _ _) _⟩
    · have h64' : decide ((s.size : Int) ≤ 64) = true := by simpa using h64
      have HR2 := Lib.hid (show r = if (lo && dm) = true then (p, q, true) else (⟨#[]⟩, ⟨#[]⟩, false) by rw [HR.out, h64']; rfl)
      clear HR h64'
      cases lo with
      | false =>
        have H0 := Lib.hid (show r = (⟨#[]⟩, ⟨#[]⟩, false) by rw [HR2.out]; rfl)
        go_enter Tryz.func60, Tryz.ntmps60
        go_wp2_with (first | (go_at_call 22; (with_reducible refine (HC.out).mono ?_); rintro e w1 ⟨rfl, n1, hw⟩; subst hw) | (go_at_call 75; (with_reducible refine (HL.out _ (HMd.out n1)).mono ?_); rintro e w2 ⟨rfl, hw⟩; replace hw := hw.symm; subst hw))
        go_ret3
        exact ⟨by rw [H0.out]; rfl, below_drewN (Below.refl _ _) _⟩
      | true =>
        cases dm with
        | false =>
          have H0 := Lib.hid (show r = (⟨#[]⟩, ⟨#[]⟩, false) by rw [HR2.out]; rfl)
          go_enter Tryz.func60, Tryz.ntmps60
          go_wp2_with (first | (go_at_call 22; (with_reducible refine (HC.out).mono ?_); rintro e w1 ⟨rfl, n1, hw⟩; subst hw) | (go_at_call 75; (with_reducible refine (HL.out _ (HMd.out n1)).mono ?_); rintro e w2 ⟨rfl, hw⟩; replace hw := hw.symm; subst hw) | (go_at_call 76; (with_reducible refine (HD.out _ (HMd.out n1)).mono ?_); rintro e w3 ⟨rfl, h3⟩; have HB3 := Lib.hid h3; clear h3))
          go_ret3
          exact ⟨by rw [H0.out]; rfl, (below_drewN (Below.refl w.heap.size w) n1).trans (HB3.out)⟩
        | true =>
          have H0 := Lib.hid (show r = (p, q, true) by rw [HR2.out]; rfl)
          go_enter Tryz.func60, Tryz.ntmps60
          go_wp2_with (first | (go_at_call 22; (with_reducible refine (HC.out).mono ?_); rintro e w1 ⟨rfl, n1, hw⟩; subst hw) | (go_at_call 75; (with_reducible refine (HL.out _ (HMd.out n1)).mono ?_); rintro e w2 ⟨rfl, hw⟩; replace hw := hw.symm; subst hw) | (go_at_call 76; (with_reducible refine (HD.out _ (HMd.out n1)).mono ?_); rintro e w3 ⟨rfl, h3⟩; have HB3 := Lib.hid h3; clear h3))
          go_ret3
          exact ⟨by rw [H0.out]; rfl, (below_drewN (Below.refl w.heap.size w) n1).trans (HB3.out)⟩
end Go.Proofs.YthknkglhppngoaaGreatDoor
namespace Go.Proofs.YthknkglhppngoaaGreatDoor
open Go.RowKit
open Go.Lib hiding intOf
set_option linter.unusedVariables false
set_option maxRecDepth 20000
set_option maxHeartbeats 1000000 in
theorem isMail_any (s : ByteArray) (hs : s.size ≤ 1000000) (w : World) (hM : Mx w) : Calls Tryz.prog 41 #[.string s] w fun e w' => e = .returned (.bool (mailB s.data.toList)) ∧ Below w.heap.size w w' := by
  have hP := parts_any s hs w hM
  have ho := parts_ok s
  obtain ⟨⟨p, q, b⟩, hr⟩ : ∃ r, partsS s = r := ⟨_, rfl⟩
  rw [hr] at hP ho
  simp only at hP ho
  rw [← ho]
  have HP := Lib.hid hP
  clear hP ho hr
  go_enter Tryz.func41, Tryz.ntmps41
  go_wp2_with (go_at_call 60; (with_reducible refine (HP.out).mono ?_); rintro e w1 ⟨rfl, h1⟩; have HB1 := Lib.hid h1; clear h1)
  go_ret
  exact ⟨rfl, HB1.out⟩
def sameB (a b : ByteArray) : Bool := mailB a.data.toList && mailB b.data.toList && ((lowS a).toList == (lowS b).toList)
theorem last_range (t : ByteArray) : -1 ≤ lastIndexByte t 64 ∧ lastIndexByte t 64 < t.size := by
  unfold lastIndexByte
  rcases lastIdx_spec t 64 t.size with ⟨h, _⟩ | ⟨i, hi, h, _⟩ <;> rw [h] <;> omega
theorem tabs_on {B : Nat} {w w' : World} (h : Tabs w) (hb : Below B w w') (h2 : 0 < B ∧ 1 < B) : Tabs w' := by
  obtain ⟨h3, h4⟩ := h2
  refine ⟨fun c hc => ?_, fun i hi => ⟨?_, ?_⟩⟩
  · have := h.1 c hc
    simp only [World.cell?] at this ⊢
    rw [hb.block 0 (by omega)]; exact this
  · have := (h.2 i hi).1
    simp only [World.cell?] at this ⊢
    rw [hb.block 1 (by omega)]; exact this
  · have := (h.2 i hi).2
    simp only [World.cell?] at this ⊢
    rw [hb.block 1 (by omega)]; exact this
theorem tabs_size {w : World} (h : Tabs w) : 0 < w.heap.size ∧ 1 < w.heap.size := by
  constructor
  · have h1 := h.1 0 (by decide)
    cases hh : w.heap[0]? with
    | none => simp [World.cell?, hh] at h1
    | some o => exact (Array.getElem?_eq_some_iff.1 hh).1
  · have h1 := (h.2 0 (by decide)).1
    cases hh : w.heap[1]? with
    | none => simp [World.cell?, hh] at h1
    | some o => exact (Array.getElem?_eq_some_iff.1 hh).1
theorem clean_le (s : ByteArray) (hs : s.size ≤ 1000000) : (cleanS s).1.size ≤ 64 := by
  unfold cleanS cleanOf
  repeat' split
  all_goals first | (show (squeezeS s).size ≤ 64; omega) | (show (0 : Nat) ≤ 64; omega)
set_option maxHeartbeats 4000000 in
theorem mcanon_any (s : ByteArray) (hs : s.size ≤ 1000000) (w : World) (hT : Tabs w) (hM : Mx w) : Calls Tryz.prog 27 #[.string s] w fun e w' => e = .returned (.tuple #[.string (mailS s).1, .int .i64 (mailS s).2]) ∧ Below w.heap.size w w' := by
  have hC := clean_any s hs w hT
  have htz := clean_le s hs
  have hlt := hM.lt
  obtain ⟨r, hr⟩ : ∃ r, mailS s = r := ⟨_, rfl⟩
  rw [hr]
  have hrr : r = mailOf (cleanS s).1 (cleanS s).2 := by rw [← hr]; rfl
  clear hr
  obtain ⟨⟨t, k⟩, ht⟩ : ∃ t, cleanS s = t := ⟨_, rfl⟩
  rw [ht] at hC htz hrr
  simp only at hC htz hrr
  have HC := Lib.hid hC
  have HB0 := Lib.hid (Below.refl w.heap.size w)
  have hLr := last_range t
  have HLI := Lib.hid (fun w => Tryz.strings_LastIndexByte t 64 (by omega) w)
  have hn0 : lowAt t = t.extract 0 (atN t) ++ lowS (t.extract (atN t) t.size) := rfl
  have hat : atN t = (lastIndexByte t 64 + 1).toNat := rfl
  obtain ⟨j, hj⟩ : ∃ j, lastIndexByte t 64 = j := ⟨_, rfl⟩
  rw [hj] at hLr hat
  have HLj := HLI.out
  rw [hj] at HLj
  obtain ⟨n, hn⟩ : ∃ n, atN t = n := ⟨_, rfl⟩
  rw [hn] at hn0 hat
  have hjn : j + 1 = (n : Int) := by omega
  have hnt : n ≤ t.size := by omega
  have hwn : IntKind.i64.wrap (n : Int) = (n : Int) := IntWalk.i64_in _ (by omega)
  have hn0I : 0 ≤ (n : Int) := by omega
  obtain ⟨u, hu⟩ : ∃ u, lowS (t.extract n t.size) = u := ⟨_, rfl⟩
  have hus : u.size = t.size - n := by rw [← hu]; show (lowL (t.extract n t.size).data.toList).toArray.size = _; unfold lowL; simp
  have hxz : (t.extract 0 n).size = n := by rw [ByteArray.size_extract]; omega
  have HF : Hid (∀ v, Below w.heap.size w v → Calls Tryz.prog 40 #[.string (t.extract n t.size)] v fun e v' => e = .returned (.string u) ∧ Below w.heap.size w v') :=
    Lib.hid fun v h => (fold_any (t.extract n t.size) (by rw [ByteArray.size_extract]; omega) v).mono (by rintro e v' ⟨rfl, h2⟩; exact ⟨by rw [hu], h.trans (h2.mono h.size)⟩)
  rw [hu] at hn0
  have HI : Hid (∀ v, Below w.heap.size w v → Calls Tryz.prog 41 #[.string (t.extract 0 n ++ u)] v fun e v' => e = .returned (.bool (mailB (lowAt t).data.toList)) ∧ Below w.heap.size w v') :=
    Lib.hid fun v h => (isMail_any (t.extract 0 n ++ u) (by rw [ByteArray.size_append]; omega) v (hM.keep h hlt)).mono (by rintro e v' ⟨rfl, h2⟩; exact ⟨by rw [hn0], h.trans (h2.mono h.size)⟩)
  have HR := Lib.hid (show r = if k = 0 then (if mailB (lowAt t).data.toList = true then (t.extract 0 n ++ u, 0) else (⟨#[]⟩, 1)) else (⟨#[]⟩, k) by rw [hrr]; unfold mailOf; rw [hn0])
  obtain ⟨b, hb⟩ : ∃ b, mailB (lowAt t).data.toList = b := ⟨_, rfl⟩
  rw [hb] at HI HR
  have HLJ := Lib.hid HLj
  have htI : (t.size : Int) ≤ 64 := by omega
  have huI : (u.size : Int) ≤ 64 := by omega
  have hxI : ((t.extract 0 n).size : Int) ≤ 64 := by omega
  have hntI : (n : Int) ≤ (t.size : Int) := by omega
  clear HLj hC ht hrr HLI hn0 hat hj hn hu hb hus hxz
  by_cases hk : k = 0
  · subst hk
    have HR2 := Lib.hid (show r = if b = true then (t.extract 0 n ++ u, 0) else (⟨#[]⟩, 1) by rw [HR.out]; rfl)
    clear HR
    cases b with
    | true =>
      have H0 := Lib.hid (show r = (t.extract 0 n ++ u, 0) by rw [HR2.out]; rfl)
      go_enter Tryz.func27, Tryz.ntmps27
      go_wp2_with (first | (go_at_call 28; (with_reducible refine (HC.out).mono ?_); rintro e v1 ⟨rfl, hb⟩; have HB1 := Lib.hid hb; clear hb) | (go_at_call 39; (with_reducible refine (HLJ.out _).mono ?_); rintro e v2 ⟨rfl, hw⟩; replace hw := hw.symm; subst hw))
      go_region_with (go_at_call 40; (with_reducible refine (HF.out _ (by first | exact HB1.out | exact HB1.out.drew | exact HB1.out.drew.drew)).mono ?_); rintro e v3 ⟨rfl, hb⟩; have HB3 := Lib.hid hb; clear hb)
      go_wp2_with (go_at_call 41; (with_reducible refine (HI.out _ HB3.out).mono ?_); rintro e v4 ⟨rfl, hb⟩; have HB4 := Lib.hid hb; clear hb)
      go_ret2
      exact ⟨by rw [H0.out]; rfl, HB4.out⟩
    | false =>
      have H0 := Lib.hid (show r = (⟨#[]⟩, 1) by rw [HR2.out]; rfl)
      go_enter Tryz.func27, Tryz.ntmps27
      go_wp2_with (first | (go_at_call 28; (with_reducible refine (HC.out).mono ?_); rintro e v1 ⟨rfl, hb⟩; have HB1 := Lib.hid hb; clear hb) | (go_at_call 39; (with_reducible refine (HLJ.out _).mono ?_); rintro e v2 ⟨rfl, hw⟩; replace hw := hw.symm; subst hw))
      go_region_with (go_at_call 40; (with_reducible refine (HF.out _ (by first | exact HB1.out | exact HB1.out.drew | exact HB1.out.drew.drew)).mono ?_); rintro e v3 ⟨rfl, hb⟩; have HB3 := Lib.hid hb; clear hb)
      go_wp2_with (go_at_call 41; (with_reducible refine (HI.out _ HB3.out).mono ?_); rintro e v4 ⟨rfl, hb⟩; have HB4 := Lib.hid hb; clear hb)
      go_ret2
      exact ⟨by rw [H0.out]; rfl, HB4.out⟩
  · have hk' : (k != 0) = true := by simpa using hk
    have H0 := Lib.hid (show r = (⟨#[]⟩, k) by rw [HR.out, if_neg hk])
    clear hk
    go_enter Tryz.func27, Tryz.ntmps27
    go_wp2_with (go_at_call 28; (with_reducible refine (HC.out).mono ?_); rintro e w1 ⟨rfl, h1⟩; have HB1 := Lib.hid h1; clear h1)
    go_ret2
    exact ⟨by rw [H0.out]; rfl, HB1.out⟩
end Go.Proofs.YthknkglhppngoaaGreatDoor
