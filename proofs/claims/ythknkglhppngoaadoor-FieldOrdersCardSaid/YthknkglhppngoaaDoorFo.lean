/- Texts: small letters. -/
import Derived.Test.YthknkglhppngoaaDoorProg
import Derived.Test.YthknkglhppngoaaDoorWords
import Derived.Test.YthknkglhppngoaaDoorSlice
import Derived.WalkKit
import Derived.Lib.Hide
import Derived.KernelRfl
import Derived.BigQuiet
import Derived.RegionTactic
import Derived.Deep.QuietTactic
import Derived.IntWalk
import Derived.Laws.IdiomStrings
namespace Go.Proofs.YthknkglhppngoaaDoor
open Go.RowKit
set_option linter.unusedVariables false
set_option maxRecDepth 100000
def low (c : UInt8) : UInt8 := if 65 ≤ (c.toNat : Int) ∧ (c.toNat : Int) ≤ 90 then UInt8.ofNat (c.toNat + 32) else c
def lowL (l : List UInt8) : List UInt8 := l.map low
def lowS (s : ByteArray) : ByteArray := ⟨(lowL s.data.toList).toArray⟩
theorem bs_ext {a b : ByteArray} (h : a.data.toList = b.data.toList) : a = b := ByteArray.ext (Array.toList_inj.1 h)
theorem bs_size (a : ByteArray) : a.size = a.data.toList.length := by simp
/-- A row of the call's own that reads as l. -/
def Row (w : World) (g m : Nat) (l : List UInt8) : Prop := ∃ C : Array Value, w.heap[g]? = some (.cells C 5 (m, m + 1)) ∧ C.size = m ∧ l.length ≤ m ∧ ∀ (j : Nat) (u : UInt8), l[j]? = some u → C[j]? = some (.int .u8 (u.toNat : Int))
theorem Row.cell {w : World} {g m : Nat} {l : List UInt8} (h : Row w g m l) {j : Nat} {u : UInt8} (hj : l[j]? = some u) : w.cell? ⟨g, j, none⟩ = some (.int .u8 (u.toNat : Int)) ∧ w.frozen? ⟨g, j, none⟩ = false := by
  obtain ⟨C, h1, h2, h3, h4⟩ := h
  have hlt := (List.getElem?_eq_some_iff.1 hj).1
  refine ⟨by rw [cell_of_row w g j C 5 _ h1]; exact h4 j u hj, ?_⟩
  simp [World.frozen?, h1]
  omega
theorem Row.set {w : World} {g m : Nat} {l : List UInt8} (h : Row w g m l) (k : Nat) (u : UInt8) : Row (w.setCell ⟨g, k, none⟩ (.int .u8 (u.toNat : Int))) g m (l.set k u) := by
  obtain ⟨C, h1, h2, h3, h4⟩ := h
  refine ⟨C.setIfInBounds k (.int .u8 (u.toNat : Int)), by simp [World.setCell, Array.getElem?_modify, h1], by rw [Array.size_setIfInBounds]; exact h2, by rw [List.length_set]; exact h3, fun j v hj => ?_⟩
  rw [List.getElem?_set] at hj
  rw [Array.getElem?_setIfInBounds]
  by_cases e : k = j
  · subst e
    rw [if_pos rfl] at hj
    by_cases hk : k < l.length
    · rw [if_pos hk] at hj
      cases hj
      rw [if_pos rfl, if_pos (by omega)]
    · rw [if_neg hk] at hj; cases hj
  · rw [if_neg e] at hj
    rw [if_neg e]
    exact h4 j v hj
theorem row_str (w : World) (s : ByteArray) (cap : Nat) (hc : s.size ≤ cap) (g : Nat) (hg : w.heap.size = g) : Row (w.alloc (.cells (bytesRow s cap) 5 ((bytesRow s cap).size, (bytesRow s cap).size + 1))) g cap s.data.toList := by
  have hz : (bytesRow s cap).size = cap := by unfold bytesRow; simp; omega
  refine ⟨bytesRow s cap, by rw [← hg]; simpa [hz] using heap_alloc_new w (.cells (bytesRow s cap) 5 ((bytesRow s cap).size, (bytesRow s cap).size + 1)), hz, by simpa using hc, fun j u hj => ?_⟩
  have hlt := (List.getElem?_eq_some_iff.1 hj).1
  rw [bytesRow_at s cap j (by simpa using hlt)]
  have := (List.getElem?_eq_some_iff.1 hj).2
  simp at this
  rw [← this]
theorem row_conv {w : World} {g m : Nat} {l : List UInt8} (h : Row w g m l) (cap : Nat) : (convert 58 9 (.slice (some ⟨g, 0, none⟩) l.length cap)).run Tryd.prog w = .ok (.string ⟨l.toArray⟩) w :=
  run_convert_bytes_back _ 58 9 5 _ cap l Tryd.underlying58 Tryd.underlying5 Tryd.underlying9 (fun j hj => by
    have := (h.cell (j := j) (List.getElem?_eq_getElem hj)).1
    rw [add_plain, Nat.zero_add]
    simpa using this)
/-- What stands there after k bytes. -/
def part (l : List UInt8) (k : Nat) : List UInt8 := lowL (l.take k) ++ l.drop k
theorem part_len (l : List UInt8) (k : Nat) : (part l k).length = l.length := by unfold part lowL; simp; omega
theorem part_at (l : List UInt8) (k : Nat) (hk : k < l.length) : (part l k)[k]? = some l[k] := by
  unfold part lowL
  rw [List.getElem?_append_right (by simp; omega)]
  simp [Nat.min_eq_left (Nat.le_of_lt hk)]
theorem part_set (l : List UInt8) (k : Nat) (hk : k < l.length) : (part l k).set k (low l[k]) = part l (k + 1) := by
  apply List.ext_getElem?
  intro j
  rw [List.getElem?_set]
  unfold part lowL
  by_cases e : k = j
  · subst e
    rw [if_pos rfl, if_pos (by simp; omega), List.getElem?_append_left (by simp; omega)]
    simp [hk]
  · rw [if_neg e]
    by_cases hj : j < k
    · rw [List.getElem?_append_left (by simp; omega), List.getElem?_append_left (by simp; omega)]
      simp [hj, show j < k + 1 by omega]
    · rw [List.getElem?_append_right (by simp; omega), List.getElem?_append_right (by simp; omega)]
      simp only [List.length_map, List.length_take, List.getElem?_drop]
      congr 1
      omega
theorem part_same (l : List UInt8) (k : Nat) (hk : k < l.length) (h : low l[k] = l[k]) : part l (k + 1) = part l k := by
  rw [← part_set l k hk, h]
  apply List.ext_getElem?
  intro j
  rw [List.getElem?_set]
  by_cases e : k = j
  · subst e
    rw [if_pos rfl, if_pos (by rw [part_len]; exact hk), part_at l k hk]
  · rw [if_neg e]
end Go.Proofs.YthknkglhppngoaaDoor
