/- The document's Next of a frame: its walk. -/
import Derived.Test.YtcopdhgmbflcoaaRpt
import Derived.Deep.RegionWith
namespace Go.Proofs.Ytcopdhgmbflcoaa
open Go.RowKit
set_option linter.unusedVariables false
theorem idx_str (s : ByteArray) (i : Nat) (j : Int) (e : j = (i : Int)) {u : UInt8} (h : s.data.toList[i]? = some u) (W : World) : (Instr.index 9 (.string s) (.int .i64 j)).run Try.prog W = .ok (.int .u8 (u.toNat : Int)) W := by
  subst e
  obtain ⟨hi, hu⟩ := List.getElem?_eq_some_iff.1 h
  have hi2 : i < s.size := by simpa using hi
  rw [run_index_string _ _ _ _ _ Try.underlying9, dif_pos (by omega)]
  rw [← hu]
  rfl
theorem sub_str (s : ByteArray) (m : Nat) (hm : m + 4 ≤ s.size) (W : World) : (Instr.slice 9 (.string s) (some (.int .i64 4)) (some (.int .i64 (4 + (m : Int)))) none).run Try.prog W = .ok (.string ⟨((s.data.toList.drop 4).take m).toArray⟩) W := by
  have h := run_slice_string (P := Try.prog) (w := W) 9 s .i64 .i64 4 (4 + (m : Int)) Try.underlying9 (by omega) (by omega) (by omega)
  rw [h]
  congr 2
  rw [show (4 + (m : Int)).toNat = 4 + m by omega, show (4 : Int).toNat = 4 by rfl]
  apply ByteArray.ext
  rw [ByteArray.data_extract]
  apply Array.toList_inj.1
  rw [Array.toList_extract, List.extract_eq_take_drop]
  simp
theorem rnext_out {cs : Array Value} (hc : cs.size = 2) {R : Ending → World → Prop} {a : Act} {w : World} {g : Nat} (h2 : a.tmps.getD 2 undef = .pointer (some ⟨g, 0, none⟩)) (hd : a.defers = []) (hg : Blk w g 29 cs)
    (hR : R (.returned (.tuple #[.agg cs, a.tmps.getD 3 undef, a.tmps.getD 4 undef])) w) : bodyPost Try.prog Try.f9 R .ret a w :=
  bodyPost_ret (results_cell2 (fn := Try.f9) rfl a.tmps Try.prog w g 29 cs (0, 0) _ h2 hg Try.underlying29 (by rw [hc]; rfl)) hd hR
theorem rnext_short (s : ByteArray) (w : World) (h : s.size < 3) :
    Calls Try.prog 9 #[.string s] w fun e w' => e = .returned (.tuple #[emp, .int .i64 0, .int .i64 14]) ∧ Below w.heap.size w w' := by
  go_enter Try.func9, Try.ntmps9
  go_wp2
  all_goals (try simp only [Exit.inBlock, Exit.then])
  refine rnext_out (cs := #[.int .i64 0, .string ⟨#[]⟩]) (g := w.heap.size) rfl rfl rfl (Blk.new _ _ _) ⟨rfl, (Below.refl _ _).alloc (Nat.le_refl _) _⟩
set_option maxHeartbeats 400000 in
theorem rnext_head (s : ByteArray) (w : World) (x y z : UInt8) (h : 3 ≤ s.size) (h0 : s.data.toList[0]? = some x) (h1 : s.data.toList[1]? = some y) (h2 : s.data.toList[2]? = some z) (hl : s.size ≤ 600) (hm : 20000 < hd3 x y z) :
    Calls Try.prog 9 #[.string s] w fun e w' => e = .returned (.tuple #[emp, .int .i64 0, .int .i64 2]) ∧ Below w.heap.size w w' := by
  have HO := Lib.hid (or_shift x y z)
  have I0 := idx_str s 0 0 rfl h0
  have I1 := idx_str s 1 1 rfl h1
  have I2 := idx_str s 2 2 rfl h2
  clear h0 h1 h2
  go_enter Try.func9, Try.ntmps9
  go_wp2
  go_quiet (fail)
  simp only [HO.out]
  go_wp2
  (try simp only [Exit.inBlock, Exit.then])
  refine rnext_out (cs := #[.int .i64 0, .string ⟨#[]⟩]) (g := w.heap.size) rfl rfl rfl ?_ ⟨rfl, ?_⟩
  · exact box_set ((Blk.new _ _ _).drewN _) _ _
  · exact box_below (below_drewN ((Below.refl _ _).alloc (Nat.le_refl _) _) _) (Nat.le_refl _) _ _
set_option maxHeartbeats 400000 in
theorem rnext_wait (s : ByteArray) (w : World) (x y z : UInt8) (h : 3 ≤ s.size) (h0 : s.data.toList[0]? = some x) (h1 : s.data.toList[1]? = some y) (h2 : s.data.toList[2]? = some z) (hl : s.size ≤ 600) (hm : hd3 x y z ≤ 20000) (hw : (s.size : Int) < hd3 x y z + 6) :
    Calls Try.prog 9 #[.string s] w fun e w' => e = .returned (.tuple #[emp, .int .i64 0, .int .i64 14]) ∧ Below w.heap.size w w' := by
  have HO := Lib.hid (or_shift x y z)
  have hp : 0 ≤ hd3 x y z := by unfold hd3; omega
  have I0 := idx_str s 0 0 rfl h0
  have I1 := idx_str s 1 1 rfl h1
  have I2 := idx_str s 2 2 rfl h2
  clear h0 h1 h2
  go_enter Try.func9, Try.ntmps9
  go_wp2
  go_quiet (fail)
  simp only [HO.out]
  go_wp2
  (try simp only [Exit.inBlock, Exit.then])
  refine rnext_out (cs := #[.int .i64 0, .string ⟨#[]⟩]) (g := w.heap.size) rfl rfl rfl ?_ ⟨rfl, ?_⟩
  · exact box_set ((Blk.new _ _ _).drewN _) _ _
  · exact box_below (below_drewN ((Below.refl _ _).alloc (Nat.le_refl _) _) _) (Nat.le_refl _) _ _
theorem full_ret2 (k : UInt8) (l : List UInt8) (m : Nat) : Ending.returned (.tuple #[.agg #[.int .i64 (wrap64 (k.toNat : Int)), .string ⟨l.toArray⟩], .int .i64 ((m : Int) + 6), .int .i64 0]) = .returned (.tuple #[.agg #[.int .i64 (k.toNat : Int), .string ⟨l.toArray⟩], .int .i64 ((m : Int) + 6), .int .i64 0]) := by
  have ha := k.toNat_lt
  rw [IntWalk.wrap64_in (k.toNat : Int) (by omega)]
set_option maxHeartbeats 400000 in
theorem rnext_full (s : ByteArray) (w : World) (l : List UInt8) (m : Nat) (k x y z p q : UInt8) (h0 : s.data.toList[0]? = some x) (h1 : s.data.toList[1]? = some y) (h2 : s.data.toList[2]? = some z) (h3 : s.data.toList[3]? = some k)
    (hL : (s.data.toList.drop 4).take m = l) (h4 : s.data.toList[m + 4]? = some p) (h5 : s.data.toList[m + 5]? = some q) (hl : s.size ≤ 600) (he : hd3 x y z = (m : Int)) (hw : m + 6 ≤ s.size) :
    Calls Try.prog 9 #[.string s] w fun e w' => e = .returned (.tuple (fout k p q l m)) ∧ Below w.heap.size w w' := by
  have HO := Lib.hid ((or_shift x y z).trans he)
  have I0 := idx_str s 0 0 rfl h0
  have I1 := idx_str s 1 1 rfl h1
  have I2 := idx_str s 2 2 rfl h2
  have I3 := idx_str s 3 3 rfl h3
  have I4 := idx_str s (m + 4) (4 + (m : Int)) (by omega) h4
  have I5 := idx_str s (m + 5) (5 + (m : Int)) (by omega) h5
  have IS := sub_str s m (by omega)
  rw [hL] at IS
  have hlen : l.length ≤ 600 := by rw [← hL]; simp; omega
  have KQ := Lib.hid (sum_test k p q l)
  have CS := Lib.hid (fun W => (rsum_any (wrap64 (k.toNat : Int)) ⟨l.toArray⟩ W (by show l.toArray.size ≤ maxLen; simp [maxLen]; omega)))
  clear h0 h1 h2 h3 h4 h5 hL
  go_enter Try.func9, Try.ntmps9
  go_wp2
  go_quiet (fail)
  simp only [HO.out]
  go_wp2
  go_region
  go_wp2
  generalize hW : World.alloc (World.drewN _ _) _ = W2
  have hsz : w.heap.size + 1 = ((w.alloc (.cells #[.int .i64 0, .string ⟨#[]⟩] 29)).drewN (nq + 1)).heap.size := by simp
  have hB : Blk W2 w.heap.size 29 #[.int .i64 0, .string ⟨#[]⟩] := by
    rw [← hW]
    exact ((Blk.new _ _ _).drewN _).alloc _
  have hB1 : Blk W2 (w.heap.size + 1) 29 #[.int .i64 (wrap64 (k.toNat : Int)), .string ⟨l.toArray⟩] := by
    rw [← hW, hsz]
    exact Blk.new _ _ _
  have hU : Below w.heap.size w W2 := by
    rw [← hW]
    exact (below_drewN ((Below.refl _ _).alloc (Nat.le_refl _) _) _).alloc (by simp) _
  clear hW hsz
  have c0 := hB1.cell 0
  have c1 := hB1.cell 1
  have d0 := hB.cell 0
  have d1 := hB.cell 1
  have f0 := hB.frozen 0
  have f1 := hB.frozen 1
  simp only [List.getElem?_toArray, List.getElem?_cons_zero, List.getElem?_cons_succ] at c0 c1 d0 d1
  have HB := Lib.hid hB
  have HU := Lib.hid hU
  clear hB hB1 hU
  have i1 : wrap64 (4 + (m : Int)) = 4 + (m : Int) := IntWalk.wrap64_in _ (by omega)
  have i2 : wrap64 (5 + (m : Int)) = 5 + (m : Int) := IntWalk.wrap64_in _ (by omega)
  go_quiet ((go_at_call 13; exact Calls.quiet_of_same ((CS.out _).mono fun _ _ ⟨h1, h2⟩ => ⟨h1, h2.symm⟩)))
  go_wp2
  all_goals (try simp only [Exit.inBlock, Exit.then])
  · refine rnext_out (cs := #[.int .i64 0, .string ⟨#[]⟩]) (g := w.heap.size) rfl rfl rfl (box_set (HB.out.drewN _) _ _) ⟨?_, box_below (below_drewN HU.out _) (Nat.le_refl _) _ _⟩
    rename_i ht
    have ht2 := (KQ.out.1 ht)
    unfold fout; rw [if_neg ht2]; rfl
  · refine rnext_out (cs := #[.int .i64 (wrap64 (k.toNat : Int)), .string ⟨l.toArray⟩]) (g := w.heap.size) rfl rfl rfl (box_set (HB.out.drewN _) _ _) ⟨?_, box_below (below_drewN HU.out _) (Nat.le_refl _) _ _⟩
    rename_i ht
    have ht2 := (KQ.out.2 ht)
    unfold fout; rw [if_pos ht2]
    exact full_ret2 k l m
theorem rnext_any (s : ByteArray) (w : World) (hs : s.size ≤ 600) :
    Calls Try.prog 9 #[.string s] w fun e w' => e = .returned (.tuple (fnx s.data.toList)) ∧ Below w.heap.size w w' := by
  have hl : s.data.toList.length = s.size := Array.length_toList
  generalize hL : s.data.toList = l at hl ⊢
  match l, hl, hL with
  | [], hl, hL => exact rnext_short s w (by simp at hl; omega)
  | [x], hl, hL => exact rnext_short s w (by simp at hl; omega)
  | [x, y], hl, hL => exact rnext_short s w (by simp at hl; omega)
  | x :: y :: z :: r, hl, hL =>
    simp only [List.length_cons] at hl
    have h0 : s.data.toList[0]? = some x := by rw [hL]; rfl
    have h1 : s.data.toList[1]? = some y := by rw [hL]; rfl
    have h2 : s.data.toList[2]? = some z := by rw [hL]; rfl
    have hp : 0 ≤ hd3 x y z := by unfold hd3; omega
    simp only [fnx]
    by_cases hm : 20000 < hd3 x y z
    · rw [if_pos hm]
      exact rnext_head s w x y z (by omega) h0 h1 h2 hs hm
    · rw [if_neg hm]
      by_cases hw : (r.length : Int) < hd3 x y z + 3
      · rw [if_pos hw]
        exact rnext_wait s w x y z (by omega) h0 h1 h2 hs (by omega) (by omega)
      · rw [if_neg hw]
        obtain ⟨m, hm'⟩ : ∃ m : Nat, hd3 x y z = (m : Int) := ⟨(hd3 x y z).toNat, by omega⟩
        rw [hm'] at hm hw ⊢
        match r, hl, hw, hL with
        | [], hl, hw, hL => simp at hw; omega
        | k :: r, hl, hw, hL =>
          simp only [List.length_cons] at hl hw
          have hd : (r.drop m).length = r.length - m := by simp
          match hr : r.drop m with
          | [] => rw [hr] at hd; simp at hd; omega
          | [p] => rw [hr] at hd; simp at hd; omega
          | p :: q :: t =>
            have hrp : r[m]? = some p := by have := congrArg (·[0]?) hr; simpa using this
            have hrq : r[m + 1]? = some q := by have := congrArg (·[1]?) hr; simpa using this
            have := rnext_full s w (r.take m) m k x y z p q h0 h1 h2 (by rw [hL]; rfl) (by rw [hL]; rfl) (by rw [hL]; simpa using hrp) (by rw [hL]; simpa using hrq) hs hm' (by omega)
            simp only [Int.toNat_natCast, fwhole, hr]
            exact this
end Go.Proofs.Ytcopdhgmbflcoaa
