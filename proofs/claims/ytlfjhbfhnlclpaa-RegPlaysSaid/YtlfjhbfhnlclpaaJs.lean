/- A row of texts of one's own, sorted. -/
import Derived.Test.YtlfjhbfhnlclpaaJc
import Derived.Test.YtlfjhbfhnlclpaaShelf
import Derived.Sort.Walk0
namespace Go.Proofs.Ytlfjhbfhnlclpaa
open Go.RowKit
open Go.Lib
set_option linter.unusedVariables false
set_option linter.unusedSimpArgs false
def svs (l : List ByteArray) : List Value := l.map Value.string
theorem svs_len (l : List ByteArray) : (svs l).length = l.length := by unfold svs; rw [List.length_map]
def bys (l : List ByteArray) : List (List UInt8) := l.map fun k => k.data.toList
def yps (l : List (List UInt8)) : List ByteArray := l.map fun k => ⟨k.toArray⟩
theorem yps_bys (l : List ByteArray) : yps (bys l) = l := by
  unfold yps bys
  rw [List.map_map]
  conv => rhs; rw [← List.map_id l]
  rfl
def srtB (l : List ByteArray) : List ByteArray := yps ((bys l).mergeSort fun x y => decide (x ≤ y))
theorem srtB_len (l : List ByteArray) : (srtB l).length = l.length := by unfold srtB yps bys; rw [List.length_map, List.length_mergeSort, List.length_map]
theorem le_trans' (a b c : List UInt8) (h : decide (a ≤ b) = true) (k : decide (b ≤ c) = true) : decide (a ≤ c) = true := by
  simp only [decide_eq_true_eq] at *
  exact List.le_trans h k
theorem le_total' (a b : List UInt8) : (decide (a ≤ b) || decide (b ≤ a)) = true := by
  simp only [Bool.or_eq_true, decide_eq_true_eq]
  exact List.le_total a b
theorem klt_iff (a b : ByteArray) : klt a b = true ↔ a.data.toList < b.data.toList := by
  unfold klt
  rw [bytesLess_eq, decide_eq_true_eq, ByteArray.toList_eq, ByteArray.toList_eq]
/-- Sorted, whatever order they came in, rising keys are what they are. -/
theorem srtB_of {l m : List ByteArray} (hp : l.Perm m) (hm : m.Pairwise fun a b => klt a b = true) : srtB l = m := by
  unfold srtB
  rw [← yps_bys m]
  congr 1
  refine List.Perm.eq_of_pairwise (le := fun x y => decide (x ≤ y) = true) (fun a b _ _ h1 h2 => ?_) (List.pairwise_mergeSort le_trans' le_total' _) ?_ ((List.mergeSort_perm _ _).trans (hp.map _))
  · simp only [decide_eq_true_eq] at h1 h2
    exact List.le_antisymm h1 h2
  · unfold bys
    rw [List.pairwise_map]
    refine hm.imp (fun {a b} h => ?_)
    rw [klt_iff] at h
    simp only [decide_eq_true_eq]
    exact List.le_of_lt h
theorem putCells_take (d cur : Array Value) (h : d.size ≤ cur.size) : (Sort.putCells id 0 d cur).toList.take d.size = d.toList ∧ (Sort.putCells id 0 d cur).size = cur.size := by
  unfold Sort.putCells
  refine ⟨?_, by simp⟩
  refine List.ext_getElem? (fun j => ?_)
  rw [List.getElem?_take]
  by_cases hj : j < d.size
  · rw [if_pos hj, Array.getElem?_toList, Array.getElem?_mapIdx, Array.getElem?_eq_getElem (by omega)]
    simp [hj]
  · rw [if_neg hj, List.getElem?_eq_none (by simpa using hj)]
theorem putCells_enc (l : List (List UInt8)) (cur : Array Value) : Sort.putCells encStr 0 l.toArray cur = Sort.putCells id 0 ((svs (yps l)).toArray) cur := by
  unfold Sort.putCells
  congr 1
  funext k x
  by_cases h : k < l.length
  · have e : (svs (yps l)).length = l.length := by unfold svs yps; simp
    rw [if_pos ⟨Nat.zero_le _, by simpa using h⟩, if_pos ⟨Nat.zero_le _, by simpa [e] using h⟩, getElem!_pos _ _ (by simpa using h), getElem!_pos _ _ (by simpa [e] using h)]
    simp [svs, yps]
  · have e : (svs (yps l)).length = l.length := by unfold svs yps; simp
    rw [if_neg (by simpa using h), if_neg (by simpa [e] using h)]
theorem sort_row {w : World} {B : Nat} {V : Value} {l : List ByteArray} {n : Nat} (h : w.ownsRow B 9 1 V n (svs l)) (hl : l.length = n) (hn : n ≤ 1000000) :
    Calls Try.prog 33 #[V] w fun e w' => e = .returned (.tuple #[]) ∧ w'.ownsRow B 9 1 V n (svs (srtB l)) ∧ w.grownBy w' V.ownBlock := by
  subst hl
  obtain ⟨h0, ⟨rfl, e⟩ | ⟨b, cap, cur, rfl, e2, e3, e4, e5, e6, e7⟩⟩ := h
  · have hl : l = [] := List.length_eq_zero_iff.1 (by simpa using e)
    subst hl
    refine (Try.slices_Sort_string_none none 0 w).mono ?_
    rintro _ w' ⟨rfl, rfl⟩
    refine ⟨rfl, ⟨by rw [svs_len, srtB_len]; rfl, .inl ⟨rfl, rfl⟩⟩, World.grownBy.refl _ _⟩
  · have hb : b < w.heap.size := Blk.lt e3
    have hle : l.length ≤ cur.size := by omega
    have hl : (bys l).length = l.length := by unfold bys; rw [List.length_map]
    have hH : Sort.Holds encStr w b 0 (bys l).toArray := fun j hj => by
      rw [List.size_toArray, hl] at hj
      refine ⟨?_, by rw [Nat.zero_add]; simp [World.frozen?, e3]⟩
      rw [Nat.zero_add, cell_of_row w b j cur 9 (0, 0) e3]
      have hv : (svs l)[j]? = some (.string l[j]) := by unfold svs; rw [List.getElem?_map, List.getElem?_eq_getElem hj]; rfl
      rw [← e7, List.getElem?_take, if_pos (by omega)] at hv
      rw [← Array.getElem?_toList, hv, getElem!_pos _ _ (by simpa [hl] using hj)]
      simp [bys]
    have hc := Try.slices_Sort_string b 0 cap (bys l) w hH hb (by omega)
    rw [hl] at hc
    refine hc.mono ?_
    rintro _ w' ⟨rfl, q, os, rfl⟩
    have hD : ((bys l).mergeSort fun x y => decide (x ≤ y)).length = l.length := by rw [List.length_mergeSort, hl]
    obtain ⟨t1, t2⟩ := putCells_take ((svs (srtB l)).toArray) cur (by rw [List.size_toArray, svs_len, srtB_len]; exact hle)
    refine ⟨rfl, ⟨by rw [svs_len, srtB_len, Nat.mul_one], .inr ⟨b, cap, Sort.putCells encStr 0 ((bys l).mergeSort fun x y => decide (x ≤ y)).toArray cur, rfl, e2, ?_, e4, e5, ?_, ?_⟩⟩, ?_⟩
    · rw [Sort.heap_grow_old _ os (by simpa using hb)]
      show (Sort.mapBlock (Sort.ahead w q) b _).heap[b]? = _
      unfold Sort.mapBlock
      simp only [Array.getElem?_modify, if_true]
      show Option.map _ w.heap[b]? = _
      rw [e3]
      rfl
    · rw [putCells_enc]
      show (Sort.putCells id 0 ((svs (srtB l)).toArray) cur).size = _
      rw [t2, e6]
    · rw [putCells_enc]
      show (Sort.putCells id 0 ((svs (srtB l)).toArray) cur).toList.take _ = _
      rw [List.size_toArray, svs_len, srtB_len] at t1
      rw [Nat.mul_one, t1]
    · refine ⟨rfl, rfl, rfl, by simp, fun j hj hne => ?_⟩
      rw [Sort.heap_grow_old _ os (by simpa using hj)]
      unfold Sort.putRow Sort.mapBlock
      have hne' : ¬ b = j := fun e => hne (by rw [e]; rfl)
      simp only [Array.getElem?_modify, if_neg hne']
      rfl
end Go.Proofs.Ytlfjhbfhnlclpaa
