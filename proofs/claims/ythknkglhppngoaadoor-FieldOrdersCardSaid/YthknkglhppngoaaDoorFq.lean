/- Lines of a contact: canonical twice is canonical; what Canon answers. -/
import Derived.Test.YthknkglhppngoaaDoorFp
import Derived.Test.YthknkglhppngoaaDoorPw
import Derived.Test.YthknkglhppngoaaDoorTm
import Derived.Test.YthknkglhppngoaaDoorMn
namespace Go.Proofs.YthknkglhppngoaaDoor
open Go.RowKit
open Go.Lib hiding intOf
set_option linter.unusedVariables false
set_option maxRecDepth 20000
theorem value_self (k : Int) (s : ByteArray) (h : (valueS k s).2 = 0) : valueS k (valueS k s).1 = ((valueS k s).1, 0) := by
  unfold valueS at h ⊢
  by_cases h3 : k = 3
  · rw [if_pos h3] at h ⊢
    rw [if_pos h3]
    rcases tel_cases s with ⟨_, h2⟩ | ⟨h1, _⟩
    · exact tel_self h2
    · exact absurd h h1
  rw [if_neg h3] at h ⊢
  rw [if_neg h3]
  by_cases h4 : k = 4
  · rw [if_pos h4] at h ⊢
    rw [if_pos h4]
    rcases mail_cases s with ⟨_, h2⟩ | ⟨h1, _⟩
    · exact mail_self h2
    · exact absurd h h1
  rw [if_neg h4] at h ⊢
  rw [if_neg h4]
  by_cases h5 : k = 5 ∧ (cleanS s).2 = 0
  · rw [if_pos h5] at h ⊢
    have hc := clean_self s h5.2
    simp only at h ⊢
    rw [hc, if_pos ⟨h5.1, rfl⟩]
    simp only
    rw [h]
  · rw [if_neg h5] at h ⊢
    have hc := clean_self s h
    rw [hc]
    split
    · rename_i h6; exact absurd ⟨h6.1, h⟩ h5
    · rfl
theorem value_size (k : Int) (s : ByteArray) (h : (valueS k s).2 = 0) : (valueS k s).1.size ≤ 64 := by
  unfold valueS at h ⊢
  by_cases h3 : k = 3
  · rw [if_pos h3] at h ⊢
    rcases tel_cases s with ⟨_, h2⟩ | ⟨h1, _⟩
    · have := (tel_plain h2).2
      have e : (telS s).1.data.toList.length = (telS s).1.size := by simp
      omega
    · exact absurd h h1
  rw [if_neg h3] at h ⊢
  by_cases h4 : k = 4
  · rw [if_pos h4] at h ⊢
    rcases mail_cases s with ⟨_, h2⟩ | ⟨h1, _⟩
    · have := (mail_parts _ h2).len
      have e : (mailS s).1.data.toList.length = (mailS s).1.size := by simp
      omega
    · exact absurd h h1
  rw [if_neg h4] at h ⊢
  have hcl : (cleanS s).2 = 0 → (cleanS s).1.size ≤ 64 := fun h => by
    obtain ⟨_, _, t, _, _, h1, e⟩ := clean_ok s h
    rw [e]; show t.size ≤ 64; omega
  by_cases h5 : k = 5 ∧ (cleanS s).2 = 0
  · rw [if_pos h5] at h ⊢
    exact hcl h5.2
  · rw [if_neg h5] at h ⊢
    exact hcl h
theorem may_size {k l : Int} {v : ByteArray} (h : mayF k l v = true) : v.size ≤ 64 := by
  unfold mayF at h
  simp only [Bool.and_eq_true] at h
  obtain ⟨⟨_, h3⟩, h4⟩ := h
  have h5 : (valueS k v).2 = 0 := by simpa using h3
  have h6 : (valueS k v).1 = v := bs_ext (by simp only [ByteArray.toList_eq] at h4; exact eq_of_beq h4)
  have := value_size k v h5
  rwa [h6] at this
/-- What Canon answers, and what that answer is in turn. -/
theorem canon_cases (k l : Int) (v : ByteArray) : (∃ e, e ≠ 0 ∧ canonV k l v = .tuple #[fieldV 0 0 ⟨#[]⟩, .int .i64 e] ∧ mayF k l v = false) ∨ (∃ t, canonV k l v = .tuple #[fieldV k l t, .int .i64 0] ∧ mayF k l v = (t.toList == v.toList) ∧ mayF k l t = true ∧ canonV k l t = .tuple #[fieldV k l t, .int .i64 0] ∧ t.size ≤ 64) := by
  unfold canonV mayF
  cases h1 : (kindW k).toList.isEmpty with
  | true => exact .inl ⟨1, by decide, by rw [if_pos (.inl rfl)], by simp⟩
  | false =>
    cases h2 : labelledB k l with
    | false => exact .inl ⟨1, by decide, by rw [if_pos (.inr rfl)], by simp⟩
    | true =>
      rw [if_neg (by simp)]
      by_cases h3 : (valueS k v).2 = 0
      · have hv := value_self k v h3
        refine .inr ⟨(valueS k v).1, by rw [if_pos h3], by rw [h3]; simp, ?_, ?_, value_size k v h3⟩
        · rw [hv]; simp
        · rw [if_neg (by simp), hv, if_pos rfl]
      · refine .inl ⟨(valueS k v).2, h3, by rw [if_neg h3], ?_⟩
        have : ((valueS k v).2 == 0) = false := by simpa using h3
        rw [this]; simp
/-- Parse's value. -/
def fldV (f : Fld) : Value := .tuple #[fieldV f.k f.l f.v, .int .i64 f.e]
end Go.Proofs.YthknkglhppngoaaDoor
