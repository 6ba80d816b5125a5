/- Lines of a contact: no two heads are alike. -/
import Derived.Test.YthknkglhppngoaaDoorFn
namespace Go.Proofs.YthknkglhppngoaaDoor
open Go.RowKit
set_option linter.unusedVariables false
set_option maxRecDepth 20000
theorem heads_unlike : ∀ k : Fin 7, ∀ l : Fin 4, ∀ k2 : Fin 7, ∀ l2 : Fin 4, 1 ≤ k.val → 1 ≤ k2.val → (headW (k.val : Int) (l.val : Int)).data.toList = (headW (k2.val : Int) (l2.val : Int)).data.toList → k = k2 ∧ l = l2 := by decide +kernel
theorem heads_colon : ∀ k : Fin 7, ∀ l : Fin 4, (58 : UInt8) ∉ (headW (k.val : Int) (l.val : Int)).data.toList := by decide +kernel
theorem head_one {k l k2 l2 : Int} (h1 : 1 ≤ k) (h2 : k ≤ 6) (h3 : 0 ≤ l) (h4 : l ≤ 3) (g1 : 1 ≤ k2) (g2 : k2 ≤ 6) (g3 : 0 ≤ l2) (g4 : l2 ≤ 3) (e : headW k l = headW k2 l2) : k = k2 ∧ l = l2 := by
  obtain ⟨a, rfl⟩ : ∃ a : Nat, k = (a : Int) := ⟨k.toNat, by omega⟩
  obtain ⟨b, rfl⟩ : ∃ b : Nat, l = (b : Int) := ⟨l.toNat, by omega⟩
  obtain ⟨c, rfl⟩ : ∃ c : Nat, k2 = (c : Int) := ⟨k2.toNat, by omega⟩
  obtain ⟨d, rfl⟩ : ∃ d : Nat, l2 = (d : Int) := ⟨l2.toNat, by omega⟩
  have h := heads_unlike ⟨a, by omega⟩ ⟨b, by omega⟩ ⟨c, by omega⟩ ⟨d, by omega⟩ (by show 1 ≤ a; omega) (by show 1 ≤ c; omega) (by show (headW (a : Int) (b : Int)).data.toList = (headW (c : Int) (d : Int)).data.toList; rw [e])
  have e1 := congrArg Fin.val h.1
  have e2 := congrArg Fin.val h.2
  exact ⟨by have : a = c := e1; omega, by have : b = d := e2; omega⟩
theorem head_colon {k l : Int} (h1 : 0 ≤ k) (h2 : k ≤ 6) (h3 : 0 ≤ l) (h4 : l ≤ 3) : (58 : UInt8) ∉ (headW k l).data.toList := by
  obtain ⟨a, rfl⟩ : ∃ a : Nat, k = (a : Int) := ⟨k.toNat, by omega⟩
  obtain ⟨b, rfl⟩ : ∃ b : Nat, l = (b : Int) := ⟨l.toNat, by omega⟩
  exact heads_colon ⟨a, by omega⟩ ⟨b, by omega⟩
theorem may_kinds {k l : Int} {v : ByteArray} (h : mayF k l v = true) : 1 ≤ k ∧ k ≤ 6 ∧ 0 ≤ l ∧ l ≤ 3 := by
  unfold mayF at h
  simp only [Bool.and_eq_true] at h
  obtain ⟨⟨⟨h1, h2⟩, _⟩, _⟩ := h
  constructor
  · false_or_by_contra
    have : kindW k = ⟨#[]⟩ := by unfold kindW; rw [if_neg (by omega), if_neg (by omega), if_neg (by omega), if_neg (by omega), if_neg (by omega), if_neg (by omega)]
    rw [this] at h1
    exact absurd h1 (by decide +kernel)
  constructor
  · false_or_by_contra
    have : kindW k = ⟨#[]⟩ := by unfold kindW; rw [if_neg (by omega), if_neg (by omega), if_neg (by omega), if_neg (by omega), if_neg (by omega), if_neg (by omega)]
    rw [this] at h1
    exact absurd h1 (by decide +kernel)
  · unfold labelledB at h2
    split at h2
    · omega
    · split at h2
      · omega
      · split at h2
        · omega
        · cases h2
end Go.Proofs.YthknkglhppngoaaDoor
