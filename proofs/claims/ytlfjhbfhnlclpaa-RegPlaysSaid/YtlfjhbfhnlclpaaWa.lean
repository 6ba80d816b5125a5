/- What stands under a text, in a tree, is what begins with it, in its list. -/
import Derived.Test.YtlfjhbfhnlclpaaOt
namespace Go.Proofs.Ytlfjhbfhnlclpaa
open Go.RowKit
set_option linter.unusedVariables false
theorem bl_pre : ∀ (p t : List UInt8), Op.bytesLess (p ++ t) p = false
  | [], t => by cases t <;> simp [Op.bytesLess]
  | x :: p, t => by simp [Op.bytesLess, bl_pre p t]
theorem bl_over : ∀ (p k s : List UInt8), (∀ t, k ≠ p ++ t) → Op.bytesLess k p = false → Op.bytesLess (p ++ s) k = true
  | [], k, s, h, _ => absurd rfl (h k)
  | x :: p, [], s, _, h => by simp [Op.bytesLess] at h
  | x :: p, y :: k, s, h, hb => by
    simp only [Op.bytesLess, Bool.or_eq_false_iff, decide_eq_false_iff_not, Bool.and_eq_false_imp, beq_iff_eq] at hb
    simp only [List.cons_append, Op.bytesLess, Bool.or_eq_true, decide_eq_true_eq, Bool.and_eq_true, beq_iff_eq]
    by_cases e : y = x
    · subst e
      exact .inr ⟨rfl, bl_over p k s (fun t ht => h t (by rw [ht]; rfl)) (hb.2 rfl)⟩
    · rcases UInt8.lt_or_lt_of_ne e with h1 | h1
      · exact absurd h1 hb.1
      · exact .inl h1
theorem preB_iff (p k : ByteArray) : preB p k = true ↔ ∃ t, k.toList = p.toList ++ t := by
  have hl : ∀ b : ByteArray, b.toList = b.data.toList := fun b => ByteArray.toList_eq b
  have hx : (k.extract 0 p.size).toList = k.toList.take p.size := by
    rw [hl, hl, ByteArray.data_extract, Array.toList_extract]
    simp [List.extract]
  have hs : p.size = p.toList.length := by rw [hl]; rfl
  have hk : k.size = k.toList.length := by rw [hl]; rfl
  unfold preB
  rw [hx, Bool.and_eq_true, decide_eq_true_eq, beq_iff_eq, hs, hk]
  constructor
  · rintro ⟨h1, h2⟩
    exact ⟨k.toList.drop p.toList.length, by conv => lhs; rw [← List.take_append_drop p.toList.length k.toList, h2]⟩
  · rintro ⟨t, ht⟩
    rw [ht]
    exact ⟨by simp, by simp⟩
theorem preB_ge {p a : ByteArray} (h : preB p a = true) : klt a p = false := by
  obtain ⟨t, ht⟩ := (preB_iff p a).1 h
  unfold klt
  rw [ht]
  exact bl_pre _ _
theorem preB_over {p a k : ByteArray} (h : preB p a = true) (hk : preB p k = false) (hp : klt k p = false) : klt a k = true := by
  obtain ⟨t, ht⟩ := (preB_iff p a).1 h
  unfold klt at *
  rw [ht]
  refine bl_over _ _ _ (fun s hs => ?_) hp
  rw [(preB_iff p k).2 ⟨s, hs⟩] at hk
  cases hk
theorem Tr.und_filter {α : Type} (p : ByteArray) : ∀ {T : Tr α}, Srt T.ino → Tr.und p T = T.ino.filter (fun q => preB p q.1)
  | .nil, _ => rfl
  | .node k v l r, h => by
    obtain ⟨h1, h2, h3, h4, _⟩ := Srt.split (show Srt (l.ino ++ (k, v) :: r.ino) from h)
    show (if preB p k = true then Tr.und p l ++ (k, v) :: Tr.und p r else if klt k p = true then Tr.und p r else Tr.und p l) = (l.ino ++ (k, v) :: r.ino).filter _
    rw [List.filter_append, List.filter_cons, Tr.und_filter p h1, Tr.und_filter p h2]
    by_cases hk : preB p k = true
    · rw [if_pos hk, if_pos hk]
    · rw [if_neg hk, if_neg hk]
      have hk' : preB p k = false := by simpa using hk
      by_cases hl : klt k p = true
      · rw [if_pos hl]
        have e : l.ino.filter (fun q => preB p q.1) = [] := List.filter_eq_nil_iff.2 (fun a ha hb => by
          have := klt_trans (h3 a ha) hl
          rw [preB_ge hb] at this
          cases this)
        rw [e, List.nil_append]
      · rw [if_neg hl]
        have hl' : klt k p = false := by simpa using hl
        have e : r.ino.filter (fun q => preB p q.1) = [] := List.filter_eq_nil_iff.2 (fun a ha hb => by
          have h5 := preB_over hb hk' hl'
          rw [klt_asym (h4 a ha)] at h5
          cases h5)
        rw [e, List.append_nil]
end Go.Proofs.Ytlfjhbfhnlclpaa
