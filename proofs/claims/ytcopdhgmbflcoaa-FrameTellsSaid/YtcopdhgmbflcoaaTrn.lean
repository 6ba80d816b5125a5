/- A frame put, one byte turned or cut off: what frame.Next makes of its bytes. -/
import Derived.Test.YtcopdhgmbflcoaaLng
namespace Go.Proofs.Ytcopdhgmbflcoaa
open Go.RowKit
set_option linter.unusedVariables false
def tot (l : List UInt8) : Int := (l.map fun c => (c.toNat : Int)).sum
theorem foldl_fst (l : List UInt8) : ∀ p : Int × Int, 0 ≤ p.1 → p.1 < 256 → (l.foldl stp p).1 = (p.1 + tot l) % 256 := by
  induction l with
  | nil => intro p h0 h1; simp only [List.foldl_nil, tot, List.map_nil, List.sum_nil]; omega
  | cons c l ih =>
    intro p h0 h1
    rw [List.foldl_cons, ih _ (by simp only [stp, stA]; omega) (by simp only [stp, stA]; omega)]
    simp only [stp, stA, tot, List.map_cons, List.sum_cons]
    omega
theorem sts_fst (k : Int) (l : List UInt8) : (sts k l).1 = (1 + k + tot l) % 256 := by
  unfold sts
  rw [foldl_fst l _ (by simp only [st0]; omega) (by simp only [st0]; omega)]
  simp only [st0]
  omega
theorem fsm_low (k : Int) (l : List UInt8) : fsm k l % 256 = (1 + k + tot l) % 256 := by
  have := sts_fst k l
  have := sts_rng k l
  unfold fsm; omega
theorem fsm_lt (k : Int) (l : List UInt8) : fsm k l < 65536 := by
  have := sts_rng k l
  unfold fsm; omega
theorem tot_set (l : List UInt8) (j : Nat) (u : UInt8) (h : j < l.length) : tot (l.set j u) = tot l - (l[j].toNat : Int) + (u.toNat : Int) := by
  have e : tot l = tot (l.take j ++ l[j] :: l.drop (j + 1)) := by simp
  have e2 : l.set j u = l.take j ++ u :: l.drop (j + 1) := List.set_eq_take_append_cons_drop.trans (if_pos h)
  rw [e2, e]
  simp only [tot, List.map_append, List.map_cons, List.sum_append, List.sum_cons]
  omega
theorem sm2_join (m : Int) (h : 0 ≤ m) (h2 : m < 65536) : ((UInt8.ofNat (m / 256).toNat).toNat : Int) * 256 + ((UInt8.ofNat m.toNat).toNat : Int) = m := by
  rw [UInt8.toNat_ofNat', UInt8.toNat_ofNat']
  omega
theorem fnx_put (k p q : UInt8) (s more : List UInt8) (hs : s.length ≤ 20000) : fnx (b3 s.length ++ k :: (s ++ p :: q :: more)) = fout k p q s s.length := by
  have e := hd3_b3 s.length (by omega)
  show fnx (_ :: _ :: _ :: (k :: (s ++ p :: q :: more))) = _
  simp only [fnx]
  rw [e, if_neg (by omega), if_neg (by simp; omega)]
  simp [fwhole]
theorem u8_ne {a b : UInt8} (h : a ≠ b) : (a.toNat : Int) ≠ (b.toNat : Int) := by
  intro h2
  exact h (UInt8.toNat_inj.1 (by omega))
def pbl (k : UInt8) (s : List UInt8) : List UInt8 := b3 s.length ++ k :: (s ++ [UInt8.ofNat (fsm k.toNat s / 256).toNat, UInt8.ofNat (fsm k.toNat s).toNat])
theorem pbs_pbl (k : Int) (h0 : 0 ≤ k) (h1 : k ≤ 255) (s : ByteArray) : pbs k s = pbl (UInt8.ofNat k.toNat) s.data.toList := by
  have e : s.data.toList.length = s.size := Array.length_toList
  have e2 : ((UInt8.ofNat k.toNat).toNat : Int) = k := by rw [UInt8.toNat_ofNat']; omega
  unfold pbs pbl hd4 b3 sm2
  rw [e2, e]
  simp
theorem fnx_pbl (k : UInt8) (s more : List UInt8) (hs : s.length ≤ 20000) : fnx (pbl k s ++ more) = #[.agg #[.int .i64 (k.toNat : Int), .string ⟨s.toArray⟩], .int .i64 ((s.length : Int) + 6), .int .i64 0] := by
  have := fnx_put k (UInt8.ofNat (fsm k.toNat s / 256).toNat) (UInt8.ofNat (fsm k.toNat s).toNat) s more hs
  rw [show pbl k s ++ more = b3 s.length ++ k :: (s ++ UInt8.ofNat (fsm k.toNat s / 256).toNat :: UInt8.ofNat (fsm k.toNat s).toNat :: more) by simp [pbl], this]
  unfold fout
  rw [if_pos (sm2_join _ (fsm_nonneg _ _) (fsm_lt _ _)).symm]
theorem pbl_turned (k : UInt8) (s : List UInt8) (hs : s.length ≤ 20000) (P : Nat) (hP : 3 ≤ P) (hP2 : P < s.length + 6) (u : UInt8) (hu : (pbl k s)[P]? ≠ some u) : fnx ((pbl k s).set P u) = #[emp, .int .i64 0, .int .i64 1] := by
  have hj := sm2_join _ (fsm_nonneg k.toNat s) (fsm_lt k.toNat s)
  have hlow := fsm_low k.toNat s
  unfold pbl at hu ⊢
  generalize hp : UInt8.ofNat (fsm k.toNat s / 256).toNat = p at *
  generalize hq : UInt8.ofNat (fsm k.toNat s).toNat = q at *
  have hk8 := k.toNat_lt
  have hu8 := u.toNat_lt
  have hp8 := p.toNat_lt
  have hq8 := q.toNat_lt
  clear hp hq
  obtain ⟨j, rfl⟩ : ∃ j, P = 3 + j := ⟨P - 3, by omega⟩
  rcases Nat.eq_zero_or_pos j with rfl | hj0
  · have hne : k ≠ u := by simpa [b3] using hu
    have h2 := u8_ne hne
    rw [show (b3 s.length ++ k :: (s ++ [p, q])).set (3 + 0) u = b3 s.length ++ u :: (s ++ p :: q :: []) by simp [b3], fnx_put _ _ _ _ _ hs]
    unfold fout
    have := fsm_low u.toNat s
    rw [if_neg (by omega)]
  · obtain ⟨i, rfl⟩ : ∃ i, j = i + 1 := ⟨j - 1, by omega⟩
    have hu2 : (s ++ [p, q])[i]? ≠ some u := by
      simpa [b3, show 3 + (i + 1) = i + 1 + 1 + 1 + 1 by omega] using hu
    rw [show (b3 s.length ++ k :: (s ++ [p, q])).set (3 + (i + 1)) u = b3 s.length ++ k :: ((s ++ [p, q]).set i u) by simp [b3, show 3 + (i + 1) = i + 1 + 1 + 1 + 1 by omega]]
    by_cases hi : i < s.length
    · rw [List.set_append_left _ _ hi]
      have hl : (s.set i u).length = s.length := by simp
      rw [← hl, fnx_put _ _ _ _ [] (by rw [hl]; exact hs)]
      rw [List.getElem?_append_left hi, List.getElem?_eq_getElem hi] at hu2
      have h2 := u8_ne (show s[i] ≠ u from fun h => hu2 (by rw [h]))
      have ht := tot_set s i u hi
      have := fsm_low k.toNat (s.set i u)
      have := (s[i]).toNat_lt
      unfold fout
      rw [if_neg (by omega)]
    · rw [List.set_append_right _ _ (by omega)]
      rw [List.getElem?_append_right (by omega)] at hu2
      have hi2 : i = s.length ∨ i = s.length + 1 := by omega
      rcases hi2 with rfl | rfl
      · simp at hu2
        have h2 := u8_ne hu2
        rw [show ([p, q].set (s.length - s.length) u) = u :: q :: [] by simp, fnx_put _ _ _ _ _ hs]
        unfold fout
        rw [if_neg (by omega)]
      · simp at hu2
        have h2 := u8_ne hu2
        rw [show ([p, q].set (s.length + 1 - s.length) u) = p :: u :: [] by simp, fnx_put _ _ _ _ _ hs]
        unfold fout
        rw [if_neg (by omega)]
theorem pbl_length (k : UInt8) (s : List UInt8) : (pbl k s).length = s.length + 6 := by simp [pbl, b3]
theorem pbl_cut (k : UInt8) (s : List UInt8) (hs : s.length ≤ 20000) (c : Nat) (hc : c < s.length + 6) : fnx ((pbl k s).take c) = #[emp, .int .i64 0, .int .i64 14] := by
  match c, hc with
  | 0, _ => rfl
  | 1, _ => rfl
  | 2, _ => rfl
  | c + 3, hc =>
    have e := hd3_b3 s.length (by omega)
    show fnx (_ :: _ :: _ :: _) = _
    exact fnx_wait (by rw [e]; omega) (by rw [e]; simp; omega)
theorem Own.set {e : TypeId} {B : Nat} {w : World} {A : Option Addr} {L cap : Nat} {l : List UInt8} (h : Own e B w (.slice A L cap) l) (P : Nat) (hP : P < l.length) (u : UInt8) :
    ∃ g, A = some ⟨g, 0, none⟩ ∧ L = l.length ∧ L ≤ cap ∧ cap ≤ maxLen ∧ B ≤ g ∧ w.cell? ⟨g, P, none⟩ = some (.int .u8 ((l[P]'hP).toNat : Int)) ∧ w.frozen? ⟨g, P, none⟩ = false ∧ Own e B (w.setCell ⟨g, P, none⟩ (.int .u8 (u.toNat : Int))) (.slice A L cap) (l.set P u) := by
  obtain ⟨ao, cap', hv, hle, hmax, hrow⟩ := h
  simp at hv
  obtain ⟨rfl, rfl, rfl⟩ := hv
  rcases hrow with h0 | ⟨g, cur, rfl, hg, hh, hcs, htk⟩
  · omega
  · have hPc : P < cur.size := by omega
    have hcell : cur[P]? = some (.int .u8 ((l[P]'hP).toNat : Int)) := by
      have hj : (l.map bv)[P]? = some (bv l[P]) := by rw [List.getElem?_map, List.getElem?_eq_getElem hP]; rfl
      rw [← htk, List.getElem?_take, if_pos hP] at hj
      rw [← Array.getElem?_toList]; exact hj
    refine ⟨g, rfl, rfl, hle, hmax, hg, by rw [cell_of_row w g P cur e (0, 0) hh]; exact hcell, by simp [World.frozen?, hh], _, cap, by rw [List.length_set], by rw [List.length_set]; exact hle, hmax, .inr ⟨g, cur.setIfInBounds P (.int .u8 (u.toNat : Int)), rfl, hg, ?_, by rw [Array.size_setIfInBounds]; exact hcs, ?_⟩⟩
    · simp [World.setCell, Array.getElem?_modify, hh]
    · rw [List.length_set, Array.toList_setIfInBounds, List.take_set, htk, List.map_set]
      rfl
end Go.Proofs.Ytcopdhgmbflcoaa
