/- What a ring holds behind i pushes, and the slices of numbers and texts that came in. -/
import Derived.Test.YtglifomkhcikdaaRf
import Derived.Laws.BitsAllLaws
namespace Go.Proofs.Ytglifomkhcikdaa
open Go.RowKit
set_option linter.unusedVariables false
structure RInv (xs : List Value) (M i F : Nat) (items : List Value) : Prop where
  len : items.length = min i M
  zero : i ≤ M → F = 0
  lt : 0 < min i M → F < min i M
  at' : ∀ k, k < min i M → items[(F + k) % min i M]? = xs[i - min i M + k]?
theorem RInv.start (xs : List Value) (M : Nat) : RInv xs M 0 0 [] := ⟨by simp, fun _ => rfl, fun h => by simp at h, fun k h => by simp at h⟩
theorem RInv.room {xs items : List Value} {M i F : Nat} {x : Value} (h : RInv xs M i F items) (hi : i < M) (hx : xs[i]? = some x) : F = 0 ∧ RInv xs M (i + 1) F (items ++ [x]) := by
  have hF := h.zero (by omega)
  subst hF
  have hl := h.len
  have hm : min i M = i := by omega
  have hm2 : min (i + 1) M = i + 1 := by omega
  refine ⟨rfl, by rw [List.length_append, hl, hm, hm2]; rfl, fun _ => rfl, fun _ => by omega, fun k hk => ?_⟩
  rw [hm2] at hk ⊢
  rw [Nat.zero_add, Nat.mod_eq_of_lt hk, show i + 1 - (i + 1) + k = k by omega]
  by_cases h2 : k < i
  · rw [List.getElem?_append_left (by omega)]
    have := h.at' k (by omega)
    rw [hm, Nat.zero_add, Nat.mod_eq_of_lt h2, show i - i + k = k by omega] at this
    exact this
  · have : k = i := by omega
    subst this
    rw [List.getElem?_append_right (by omega), hl, hm, Nat.sub_self, hx]
    rfl
theorem RInv.full {xs items : List Value} {M i F : Nat} {x : Value} (h : RInv xs M i F items) (hM : 1 ≤ M) (hi : M ≤ i) (hx : xs[i]? = some x) :
    F < M ∧ items.length = M ∧ items[F]? = xs[i - M]? ∧ RInv xs M (i + 1) ((F + 1) % M) (items.set F x) := by
  have hm : min i M = M := by omega
  have hm2 : min (i + 1) M = M := by omega
  have hl := h.len
  have hF := h.lt (by omega)
  rw [hm] at hl hF
  have h0 := h.at' 0 (by omega)
  rw [hm, Nat.add_zero, Nat.mod_eq_of_lt hF, Nat.add_zero] at h0
  refine ⟨hF, hl, h0, by rw [List.length_set, hl, hm2], fun h => ?_, fun _ => by rw [hm2]; exact Nat.mod_lt _ (by omega), fun k hk => ?_⟩
  · have : M = 1 ∧ False ∨ True := .inr trivial
    omega
  · rw [hm2] at hk ⊢
    rw [Nat.mod_add_mod]
    by_cases h2 : k + 1 < M
    · have hne : F ≠ (F + 1 + k) % M := by
        intro e
        by_cases h3 : F + 1 + k < M
        · rw [Nat.mod_eq_of_lt h3] at e; omega
        · have h4 : (F + 1 + k) % M = F + 1 + k - M := by rw [Nat.mod_eq_sub_mod (by omega), Nat.mod_eq_of_lt (by omega)]
          omega
      rw [List.getElem?_set_ne hne]
      have := h.at' (k + 1) (by omega)
      rw [hm] at this
      rw [show F + 1 + k = F + (k + 1) by omega, this]
      congr 1
      omega
    · have hk1 : k + 1 = M := by omega
      rw [show F + 1 + k = F + M by omega, Nat.add_mod_right, Nat.mod_eq_of_lt hF, List.getElem?_set_self (by omega), show i + 1 - M + k = i by omega, hx]
structure Ints (w : World) (A : Option Addr) (len b off : Nat) (xs : List Int) : Prop where
  hlen : xs.length = len
  addr : 0 < len → A = some ⟨b, off, none⟩ ∧ b < w.heap.size
  cell : ∀ j x, xs[j]? = some x → w.cell? ⟨b, off + j, none⟩ = some (.int .i64 x)
theorem ints_open {w : World} {A : Option Addr} {len cap : Nat} (S : Sh.ok w (Sh.slice 1 (Sh.int .i64)) [.slice A len cap]) : (len ≤ cap) ∧ ∃ b off xs, Ints w A len b off xs := by
  obtain ⟨b, off, hle, hmax, ha, hc⟩ := slice_at S (by omega)
  have H : ∀ i, i < len → ∃ x : Int, w.cell? ⟨b, off + i, none⟩ = some (.int .i64 x) := by
    intro i hi
    obtain ⟨cs, hl, hok, hcell⟩ := hc i hi
    simp only [Sh.ok] at hok
    obtain ⟨x, rfl, wf⟩ := hok
    have := hcell 0 (by omega)
    simp at this
    exact ⟨x, this⟩
  refine ⟨hle, b, off, List.ofFn (fun i : Fin len => Classical.choose (H i.1 i.2)), by simp, ha, fun j u hu => ?_⟩
  have hj : j < len := by have := (List.getElem?_eq_some_iff.1 hu).1; simpa using this
  rw [List.getElem?_eq_getElem (by simpa using hj)] at hu
  simp only [List.getElem_ofFn, Option.some.injEq] at hu
  rw [← hu]
  exact Classical.choose_spec (H j hj)
theorem Ints.below {w w' : World} {A : Option Addr} {len b off : Nat} {xs : List Int} (h : Ints w A len b off xs) (hb : Below w.heap.size w w') : Ints w' A len b off xs :=
  ⟨h.hlen, fun hz => ⟨(h.addr hz).1, Nat.lt_of_lt_of_le (h.addr hz).2 hb.size⟩, fun j u hu => by
    have hl : 0 < len := by rw [← h.hlen]; have := (List.getElem?_eq_some_iff.1 hu).1; omega
    exact (World.cell?_of_block (hb.block b (h.addr hl).2)).trans (h.cell j u hu)⟩
structure Strs (w : World) (A : Option Addr) (len b off : Nat) (ts : List ByteArray) : Prop where
  hlen : ts.length = len
  addr : 0 < len → A = some ⟨b, off, none⟩ ∧ b < w.heap.size
  cell : ∀ j t, ts[j]? = some t → w.cell? ⟨b, off + j, none⟩ = some (.string t)
theorem strs_open {w : World} {A : Option Addr} {len cap : Nat} (S : Sh.ok w (Sh.slice 1 Sh.str) [.slice A len cap]) : (len ≤ cap) ∧ ∃ b off ts, Strs w A len b off ts := by
  obtain ⟨b, off, hle, hmax, ha, hc⟩ := slice_at S (by omega)
  have H : ∀ i, i < len → ∃ t : ByteArray, w.cell? ⟨b, off + i, none⟩ = some (.string t) := by
    intro i hi
    obtain ⟨cs, hl, hok, hcell⟩ := hc i hi
    simp only [Sh.ok] at hok
    obtain ⟨t, rfl, ht⟩ := hok
    have := hcell 0 (by omega)
    simp at this
    exact ⟨t, this⟩
  refine ⟨hle, b, off, List.ofFn (fun i : Fin len => Classical.choose (H i.1 i.2)), by simp, ha, fun j u hu => ?_⟩
  have hj : j < len := by have := (List.getElem?_eq_some_iff.1 hu).1; simpa using this
  rw [List.getElem?_eq_getElem (by simpa using hj)] at hu
  simp only [List.getElem_ofFn, Option.some.injEq] at hu
  rw [← hu]
  exact Classical.choose_spec (H j hj)
theorem Strs.below {w w' : World} {A : Option Addr} {len b off : Nat} {ts : List ByteArray} (h : Strs w A len b off ts) (hb : Below w.heap.size w w') : Strs w' A len b off ts :=
  ⟨h.hlen, fun hz => ⟨(h.addr hz).1, Nat.lt_of_lt_of_le (h.addr hz).2 hb.size⟩, fun j u hu => by
    have hl : 0 < len := by rw [← h.hlen]; have := (List.getElem?_eq_some_iff.1 hu).1; omega
    exact (World.cell?_of_block (hb.block b (h.addr hl).2)).trans (h.cell j u hu)⟩
def vis (xs : List Int) : List Value := xs.map (Value.int .i64)
theorem vis_get {xs : List Int} {i : Nat} {x : Int} (h : xs[i]? = some x) : (vis xs)[i]? = some (.int .i64 x) := by simp [vis, h]
end Go.Proofs.Ytglifomkhcikdaa
