/- Texts: small letters. -/
import Derived.Test.YtbigenlmbomoeaaDoorProg
import Derived.Test.YtbigenlmbomoeaaDoorWords
import Derived.Test.YtbigenlmbomoeaaDoorSlice
import Derived.WalkKit
import Derived.Lib.Hide
import Derived.KernelRfl
import Derived.BigQuiet
import Derived.RegionTactic
import Derived.Deep.QuietTactic
import Derived.IntWalk
import Derived.Laws.IdiomStrings
namespace Go.Proofs.YtbigenlmbomoeaaDoor
open Go.RowKit
set_option linter.unusedVariables false
set_option maxRecDepth 100000
def low (c : UInt8) : UInt8 := if 65 ≤ (c.toNat : Int) ∧ (c.toNat : Int) ≤ 90 then UInt8.ofNat (c.toNat + 32) else c
def lowL (l : List UInt8) : List UInt8 := l.map low
def lowS (s : ByteArray) : ByteArray := ⟨(lowL s.data.toList).toArray⟩
theorem bs_ext {a b : ByteArray} (h : a.data.toList = b.data.toList) : a = b := ByteArray.ext (Array.toList_inj.1 h)
theorem bs_size (a : ByteArray) : a.size = a.data.toList.length := by simp
/-- A row of the call's own that reads as l. -/
def Row (w : World) (g m : Nat) (l : List UInt8) : Prop := ∃ C : Array Value, w.heap[g]? = some (.cells C 5 (m, m + 1)) ∧ C.size = m ∧ l.length ≤ m ∧ ∀ (j : Nat) (u : UInt8), l[j]? = some u → C[j]? = some (.int .u8 (u.toNat : Int))
theorem Row.cell {w : World} {g m : Nat} {l : List UInt8} (h : Row w g m l) {j : Nat} {u : UInt8} (hj : l[j]? = some u) : w.cell? ⟨g, j, none⟩ = some (.int .u8 (u.toNat : Int)) ∧ w.frozen? ⟨g, j, none⟩ = false := by
  obtain ⟨C, h1, h2, h3, h4⟩ := h
  have hlt := (List.getElem?_eq_some_iff.1 hj).1
  refine ⟨by rw [cell_of_row w g j C 5 _ h1]; exact h4 j u hj, ?_⟩
  simp [World.frozen?, h1]
  omega
theorem Row.set {w : World} {g m : Nat} {l : List UInt8} (h : Row w g m l) (k : Nat) (u : UInt8) : Row (w.setCell ⟨g, k, none⟩ (.int .u8 (u.toNat : Int))) g m (l.set k u) := by
  obtain ⟨C, h1, h2, h3, h4⟩ := h
  refine ⟨C.setIfInBounds k (.int .u8 (u.toNat : Int)), by simp [World.setCell, Array.getElem?_modify, h1], by rw [Array.size_setIfInBounds]; exact h2, by rw [List.length_set]; exact h3, fun j v hj => ?_⟩
  rw [List.getElem?_set] at hj
  rw [Array.getElem?_setIfInBounds]
  by_cases e : k = j
  · subst e
    rw [if_pos rfl] at hj
    by_cases hk : k < l.length
    · rw [if_pos hk] at hj
      cases hj
      rw [if_pos rfl, if_pos (by omega)]
    · rw [if_neg hk] at hj; cases hj
  · rw [if_neg e] at hj
    rw [if_neg e]
    exact h4 j v hj
theorem row_str (w : World) (s : ByteArray) (cap : Nat) (hc : s.size ≤ cap) (g : Nat) (hg : w.heap.size = g) : Row (w.alloc (.cells (bytesRow s cap) 5 ((bytesRow s cap).size, (bytesRow s cap).size + 1))) g cap s.data.toList := by
  have hz : (bytesRow s cap).size = cap := by unfold bytesRow; simp; omega
  refine ⟨bytesRow s cap, by rw [← hg]; simpa [hz] using heap_alloc_new w (.cells (bytesRow s cap) 5 ((bytesRow s cap).size, (bytesRow s cap).size + 1)), hz, by simpa using hc, fun j u hj => ?_⟩
  have hlt := (List.getElem?_eq_some_iff.1 hj).1
  rw [bytesRow_at s cap j (by simpa using hlt)]
  have := (List.getElem?_eq_some_iff.1 hj).2
  simp at this
  rw [← this]
theorem row_conv {w : World} {g m : Nat} {l : List UInt8} (h : Row w g m l) (cap : Nat) : (convert 32 9 (.slice (some ⟨g, 0, none⟩) l.length cap)).run Tryd.prog w = .ok (.string ⟨l.toArray⟩) w :=
  run_convert_bytes_back _ 32 9 5 _ cap l Tryd.underlying32 Tryd.underlying5 Tryd.underlying9 (fun j hj => by
    have := (h.cell (j := j) (List.getElem?_eq_getElem hj)).1
    rw [add_plain, Nat.zero_add]
    simpa using this)
/-- What stands there after k bytes. -/
def part (l : List UInt8) (k : Nat) : List UInt8 := lowL (l.take k) ++ l.drop k
theorem part_len (l : List UInt8) (k : Nat) : (part l k).length = l.length := by unfold part lowL; simp; omega
theorem part_at (l : List UInt8) (k : Nat) (hk : k < l.length) : (part l k)[k]? = some l[k] := by
  unfold part lowL
  rw [List.getElem?_append_right (by simp; omega)]
  simp [Nat.min_eq_left (Nat.le_of_lt hk)]
theorem part_set (l : List UInt8) (k : Nat) (hk : k < l.length) : (part l k).set k (low l[k]) = part l (k + 1) := by
  apply List.ext_getElem?
  intro j
  rw [List.getElem?_set]
  unfold part lowL
  by_cases e : k = j
  · subst e
    rw [if_pos rfl, if_pos (by simp; omega), List.getElem?_append_left (by simp; omega)]
    simp [hk]
  · rw [if_neg e]
    by_cases hj : j < k
    · rw [List.getElem?_append_left (by simp; omega), List.getElem?_append_left (by simp; omega)]
      simp [hj, show j < k + 1 by omega]
    · rw [List.getElem?_append_right (by simp; omega), List.getElem?_append_right (by simp; omega)]
      simp only [List.length_map, List.length_take, List.getElem?_drop]
      congr 1
      omega
theorem part_same (l : List UInt8) (k : Nat) (hk : k < l.length) (h : low l[k] = l[k]) : part l (k + 1) = part l k := by
  rw [← part_set l k hk, h]
  apply List.ext_getElem?
  intro j
  rw [List.getElem?_set]
  by_cases e : k = j
  · subst e
    rw [if_pos rfl, if_pos (by rw [part_len]; exact hk), part_at l k hk]
  · rw [if_neg e]
set_option maxHeartbeats 4000000 in
theorem fold_any (s : ByteArray) (hs : s.size ≤ 1000000) (w : World) : Calls Tryd.prog 10 #[.string s] w fun e w' => e = .returned (.string (lowS s)) ∧ Below w.heap.size w w' := by
  obtain ⟨cap, hcap⟩ : ∃ cap, grownCap w s.size 0 5 = cap := ⟨_, rfl⟩
  have hge : s.size ≤ cap := by rw [← hcap]; exact grownCap_ge _ _ _ _
  have kc := run_bytes_of_string (P := Tryd.prog) w 9 32 5 s Tryd.underlying9 Tryd.underlying32 Tryd.underlying5
  rw [hcap] at kc
  have HR := Lib.hid (row_str w.drew s cap hge w.heap.size rfl)
  have HB0 : Hid (Below w.heap.size w (w.drew.alloc (.cells (bytesRow s cap) 5 ((bytesRow s cap).size, (bytesRow s cap).size + 1)))) := Lib.hid (((Below.refl _ _).drew).alloc (Nat.le_refl _) _)
  obtain ⟨W1, hW1⟩ : ∃ W1, w.drew.alloc (.cells (bytesRow s cap) 5 ((bytesRow s cap).size, (bytesRow s cap).size + 1)) = W1 := ⟨_, rfl⟩
  rw [hW1] at kc HR HB0
  clear hW1 hcap
  have hcapI : (s.size : Int) ≤ (cap : Int) := by omega
  go_enter Tryd.func10, Tryd.ntmps10
  go_wp2
  go_loopw [10] (fun i wr => ∃ k : Nat, k ≤ s.size ∧ i = .int .i64 (k : Int) ∧ Row wr w.heap.size cap (part s.data.toList k) ∧ Below w.heap.size w wr) (fun i _ => s.size - (intOf i).toNat)
  case atStart => exact ⟨0, Nat.zero_le _, rfl, by unfold part lowL; simpa using HR.out, HB0.out⟩
  case round =>
    obtain ⟨k, hk, rfl, hr, hb⟩ := hrel
    have HRR := Lib.hid hr
    have HBB := Lib.hid hb
    clear hr hb
    by_cases hlt : k < s.size
    · have hkl : k < s.data.toList.length := by simpa using hlt
      obtain ⟨cc, cf⟩ := HRR.out.cell (part_at _ _ hkl)
      obtain ⟨c, hc⟩ : ∃ c, s.data.toList[k] = c := ⟨_, rfl⟩
      rw [hc] at cc
      have hc8 : (c.toNat : Int) ≤ 255 := by have := c.toNat_lt; omega
      have HC := Lib.hid hc
      clear hc
      by_cases u1 : 65 ≤ (c.toNat : Int)
      · by_cases u2 : (c.toNat : Int) ≤ 90
        · have HS := Lib.hid (show Row (wr.setCell ⟨w.heap.size, k, none⟩ (.int .u8 ((c.toNat : Int) - 65 + 97))) w.heap.size cap (part s.data.toList (k + 1)) by
            have h := HRR.out.set k (low s.data.toList[k])
            rw [part_set _ _ hkl, HC.out] at h
            have e : ((low c).toNat : Int) = (c.toNat : Int) - 65 + 97 := by
              unfold low; rw [if_pos ⟨u1, u2⟩, UInt8.toNat_ofNat']; omega
            rwa [e] at h)
          go_wp2
          exact ⟨⟨k + 1, by omega, by go_num, HS.out, HBB.out.setCell (p := ⟨w.heap.size, k, none⟩) (Nat.le_refl _) _⟩, by simp [intOf]; omega⟩
        · have u3 : decide ((c.toNat : Int) ≤ 90) = false := by simp; omega
          have HS := Lib.hid (part_same _ _ hkl (by rw [HC.out]; unfold low; rw [if_neg (by omega)]))
          go_wp2
          exact ⟨⟨k + 1, by omega, by go_num, by rw [HS.out]; exact HRR.out, HBB.out⟩, by simp [intOf]; omega⟩
      · have u3 : decide (65 ≤ (c.toNat : Int)) = false := by simp; omega
        have HS := Lib.hid (part_same _ _ hkl (by rw [HC.out]; unfold low; rw [if_neg (by omega)]))
        go_wp2
        exact ⟨⟨k + 1, by omega, by go_num, by rw [HS.out]; exact HRR.out, HBB.out⟩, by simp [intOf]; omega⟩
    · have hks : k = s.size := by omega
      subst hks
      have hcv := row_conv HRR.out cap
      have e : part s.data.toList s.size = lowL s.data.toList := by unfold part lowL; rw [List.take_of_length_le (by simp), List.drop_of_length_le (by simp)]; simp
      rw [part_len, ← bs_size, e] at hcv
      go_wp2
      go_ret
      exact ⟨rfl, HBB.out⟩
end Go.Proofs.YtbigenlmbomoeaaDoor
