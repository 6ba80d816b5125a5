/- The library's Delete, at the lock's queue: its walk. -/
import Derived.Test.YtkhlimlcnlalgaaKg
namespace Go.Proofs.Ytkhlimlcnlalgaa
open Go.RowKit Go.Maps
set_option linter.unusedVariables false
set_option linter.unusedSimpArgs false
set_option maxRecDepth 100000
theorem e42 : Try.prog.elem 42 = 46 := by kernel_rfl
theorem s46 (W : World) : (sizeOf 46).run Try.prog W = .ok 2 W := by kernel_rfl
theorem cut_three (A : Option Addr) (n cap k : Nat) (hk : k < n) (hn : n ≤ cap) : ∃ X, ∀ W, (Instr.sliceAt 42 (.slice A n cap) (some (.int .i64 (k : Int))) (some (.int .i64 ((k : Int) + 1))) (some (.int .i64 (n : Int)))).run Try.prog W = .ok X W := by
  refine ⟨sliced A (k : Int).toNat ((k : Int) + 1).toNat (n : Int).toNat 2, fun W => ?_⟩
  rw [run_sliceAt_slice W 42 _ _ _ _ (by exact Try.underlying42), run_slice_lhm W 42 _ _ _ (by exact Try.underlying42) _ _ _ _ _ _ (by omega) (by omega) (by omega) (by omega), e42, s46]
  rfl
theorem cut_head (g off n cap k : Nat) (hk : k ≤ cap) (W : World) : (Instr.sliceAt 42 (.slice (some ⟨g, off, none⟩) n cap) none (some (.int .i64 (k : Int))) none).run Try.prog W = .ok (.slice (some ⟨g, off, none⟩) k cap) W := by
  rw [run_sliceAt_slice W 42 _ _ _ _ (by exact Try.underlying42), run_slice_h W 42 _ _ _ (by exact Try.underlying42) _ _ (by omega) (by omega), e42, s46]
  simp only [Result.andThen, sliced, Int.toNat_natCast, Option.map_some, Nat.zero_mul, Nat.sub_zero]
  congr 2
  by_cases h : cap = 0
  · rw [if_pos h]
  · rw [if_neg h, add_plain, Nat.add_zero]
theorem cut_tail (g off n cap k : Nat) (hk : k + 1 ≤ n) (W : World) : (Instr.sliceAt 42 (.slice (some ⟨g, off, none⟩) n cap) (some (.int .i64 ((k : Int) + 1))) none none).run Try.prog W = .ok (.slice (tailB g off cap k) (n - (k + 1)) (cap - (k + 1))) W := by
  have e2 : ((k : Int) + 1).toNat = k + 1 := by omega
  rw [run_sliceAt_slice W 42 _ _ _ _ (by exact Try.underlying42), run_slice_l W 42 _ _ _ (by exact Try.underlying42) _ _ (by omega) (by omega), e42, s46, e2]
  simp only [Result.andThen, sliced, Option.map_some, tailB, add_plain]
theorem cut_last (g off m cap : Nat) (hm : m + 1 ≤ cap) (W : World) : (Instr.sliceAt 42 (.slice (some ⟨g, off, none⟩) m cap) (some (.int .i64 (m : Int))) (some (.int .i64 ((m : Int) + 1))) none).run Try.prog W = .ok (.slice (some ⟨g, off + m * 2, none⟩) 1 (cap - m)) W := by
  have e2 : ((m : Int) + 1).toNat = m + 1 := by omega
  rw [run_sliceAt_slice W 42 _ _ _ _ (by exact Try.underlying42), run_slice_lh W 42 _ _ _ (by exact Try.underlying42) _ _ _ _ (by omega) (by omega) (by omega), e42, s46, e2]
  simp only [Result.andThen, sliced, Int.toNat_natCast, Option.map_some]
  rw [if_neg (by omega), add_plain, show m + 1 - m = 1 by omega]
theorem sc_del {cur : Array Value} {off k m : Nat} {Q : List Pq} (hm : Q.length = m + 1) (hk : k < m + 1) (hs : off + (m + 1) * 2 ≤ cur.size) (hq : ∀ j p, Q[j]? = some p → cur[off + j * 2]? = some (.int .i64 p.1) ∧ cur[off + j * 2 + 1]? = some (.int .i64 p.2)) {j : Nat} {p : Pq} (hj : (Q.eraseIdx k)[j]? = some p) :
    (sc (sc cur (off + k * 2) (qcells (Q.drop (k + 1)))) (off + m * 2) [.int .i64 0, .int .i64 0])[off + j * 2]? = some (.int .i64 p.1) ∧ (sc (sc cur (off + k * 2) (qcells (Q.drop (k + 1)))) (off + m * 2) [.int .i64 0, .int .i64 0])[off + j * 2 + 1]? = some (.int .i64 p.2) := by
  have hjm : j < m := by
    have := (List.getElem?_eq_some_iff.1 hj).1
    rw [List.length_eraseIdx, if_pos (by omega)] at this
    omega
  have hdl : (qcells (Q.drop (k + 1))).length = (m - k) * 2 := by rw [qcells_len, List.length_drop, hm]; congr 1; omega
  rw [List.getElem?_eraseIdx] at hj
  have out : ∀ i, i < off + m * 2 → (sc (sc cur (off + k * 2) (qcells (Q.drop (k + 1)))) (off + m * 2) [.int .i64 0, .int .i64 0])[i]? = (sc cur (off + k * 2) (qcells (Q.drop (k + 1))))[i]? := fun i hi => by
    rw [sc_get, if_neg (by omega)]
  rw [out _ (by omega), out _ (by omega)]
  by_cases h : j < k
  · rw [if_pos h] at hj
    obtain ⟨e1, e2⟩ := hq j p hj
    rw [sc_get, if_neg (by omega), sc_get, if_neg (by omega)]
    exact ⟨e1, e2⟩
  · rw [if_neg h] at hj
    have hd : (Q.drop (k + 1))[j - k]? = some p := by rw [List.getElem?_drop, ← hj]; congr 1; omega
    have g0 := qcells_get (Q.drop (k + 1)) (j - k) 0 p hd (by omega)
    have g1 := qcells_get (Q.drop (k + 1)) (j - k) 1 p hd (by omega)
    rw [sc_get, hdl, if_pos ⟨by omega, by omega, by omega⟩, sc_get, hdl, if_pos ⟨by omega, by omega, by omega⟩]
    rw [show off + j * 2 - (off + k * 2) = (j - k) * 2 + 0 by omega, show off + j * 2 + 1 - (off + k * 2) = (j - k) * 2 + 1 by omega, g0, g1]
    exact ⟨rfl, rfl⟩
section
variable {w W : World} {B : Nat} {V : Value} {Q : List Pq}
set_option maxHeartbeats 4000000 in
theorem del_any (h : Qr w B V Q) (hn : Q.length ≤ 1000) {k : Nat} (hk : k < Q.length) : Calls Try.prog 24 #[V, .int .i64 (k : Int), .int .i64 ((k : Int) + 1)] w fun e w' => ∃ V', e = .returned V' ∧ Qr w' B V' (Q.eraseIdx k) ∧ w.grownBy w' V.ownBlock ∧ V'.ownBlock = V.ownBlock ∧ w'.heap.size = w.heap.size := by
  obtain ⟨i0, hi, hz0, hz1, hz2⟩ := info_parts info46
  rcases h with ⟨rfl, rfl⟩ | ⟨g, off, cap, cur, rfl, h1, h2, h3, h4, h5, h6⟩
  · simp at hk
  obtain ⟨m, hm⟩ : ∃ m, Q.length = m + 1 := ⟨Q.length - 1, by omega⟩
  have HQ := Lib.hid h6
  have HH := Lib.hid h2
  have HM := Lib.hid hm
  obtain ⟨X, hX⟩ := cut_three (some ⟨g, off, none⟩) (m + 1) cap k (by omega) (by omega)
  have hc1 := cut_head g off (m + 1) cap k (by omega)
  have hc2 := cut_tail g off (m + 1) cap k (by omega)
  rw [show m + 1 - (k + 1) = m - k by omega] at hc2
  have hc3 := cut_last g off m cap (by omega)
  have hmc : ((m + 1 : Nat) : Int) = (m : Int) + 1 := by omega
  rw [hmc] at hX
  have hne : ((k : Int) == (k : Int) + 1) = false := by simp; omega
  obtain ⟨T, hT⟩ : ∃ T, tailB g off cap k = T := ⟨_, rfl⟩
  simp only [hT] at hc2
  have HT := Lib.hid hT
  obtain ⟨w1, hw1⟩ : ∃ w1, (w.drew).setCells g (off + k * 2) (qcells (Q.drop (k + 1))) = w1 := ⟨_, rfl⟩
  have hh1 : w1.heap[g]? = some (.cells (sc cur (off + k * 2) (qcells (Q.drop (k + 1)))) 46 (0, 0)) := hw1 ▸ heap_sc _ w.drew g _ cur 46 (0, 0) h2
  have hcl := fun ty => run_clear_two (w := w1) ty (g := g) (o := off + m * 2) (c := cap - m) hh1 (by rw [sc_size]; omega)
  have HW1 := Lib.hid hw1
  have HH1 := Lib.hid hh1
  have hq1000 : (m : Int) ≤ 1000 := by omega
  rw [hm]
  clear h2 h6 hm hT hw1 hh1
  go_enter Try.func24, Try.ntmps24
  go_wp2_with fail
  go_region_law (first
    | (refine step_tail rfl (.tmp 22) (.tmp 25) rfl (cap := cap) (k := k) (Q := Q) (show (w.drew).heap[g]? = _ from HH.out) hk h3 h5 HQ.out rfl (by rw [HM.out, HT.out, show m + 1 - (k + 1) = m - k by omega]; rfl) hi hz1 ?_
       rw [HW1.out, HM.out]))
  all_goals (
    go_wp2
    go_ret
    have hh1 := HH1.out
    have hm := HM.out
    have hh2 := heap_sc [.int .i64 0, .int .i64 0] w1 g (off + m * 2) _ 46 (0, 0) hh1
    refine ⟨_, rfl, .inr ⟨g, off, cap, _, ?_, h1, hh2, ?_, h4, ?_, fun j p hj => ?_⟩, ?_, rfl, ?_⟩
    · rw [List.length_eraseIdx, if_pos hk, hm, Nat.add_sub_cancel]; rfl
    · rw [List.length_eraseIdx, if_pos hk]; omega
    · rw [sc_size, sc_size]; exact h5
    · exact sc_del hm (by omega) (by omega) HQ.out hj
    · have o1 := oth_sc [.int .i64 0, .int .i64 0] w1 g (off + m * 2)
      have o2 := oth_sc (qcells (Q.drop (k + 1))) w.drew g (off + k * 2)
      rw [HW1.out] at o2
      refine ⟨o1.1.trans o2.1, o1.2.1.trans o2.2.1, o1.2.2.trans o2.2.2, ?_, fun j hj hne => ?_⟩
      · rw [size_sc, ← HW1.out, size_sc]; exact Nat.le_refl _
      · have hne : g ≠ j := fun e => hne (by rw [← e]; rfl)
        rw [setCells_other g j hne, ← HW1.out, setCells_other g j hne]
        rfl
    · rw [size_sc, ← HW1.out, size_sc]; rfl)
end
end Go.Proofs.Ytkhlimlcnlalgaa
