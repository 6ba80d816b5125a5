/- frame.Put: its walk. -/
import Derived.Test.YtcopdhgmbflcoaaCln
import Derived.Deep.RegionLaw
namespace Go.Proofs.Ytcopdhgmbflcoaa
open Go.RowKit
set_option linter.unusedVariables false
theorem step_own_append {P : Program} {ops : Array Oper} {o : Oper} {a : Act} {w : World} {K : Act → World → Prop} {Q : Exit → Act → World → Prop} {E : Prop} {e t tx : TypeId} (hgd : o.guard = none) (s x : Operand)
    (ho : o.op = .call { callee := .builtin .append, args := #[s, x], argTypes := #[t, tx] }) {i : TypeInfo} {z : Value} (ht : P.underlying t = some (.slice e)) (hi : P.info? e = some i) (hz : i.zero = some z) (hsz : i.size = 1) (hby : i.bytes = 1) (hzs : z.cells.size = 1)
    {B : Nat} {v : Value} {l : List UInt8} (hv : a.eval s = v) (h : Own e B w v l) (hB : B ≤ w.heap.size) (xv : Value) (hx : a.eval x = xv) (more : List UInt8) (hs : Src P 1 tx xv more.length (more.map bv) w) (h63 : l.length + more.length ≤ 140737488355328)
    (hK : ∀ v' w', Own e B w' v' (l ++ more) → Below B w w' → K (a.put o.dst v') w') :
    if Region.wanted o (yielded ops a.tmps) = true then Oper.wp P o a w K Q else E := by
  have hw : Region.wanted o (yielded ops a.tmps) = true := by simp [Region.wanted, hgd]
  rw [if_pos hw]
  obtain ⟨v', w', hrun, r1, r2⟩ := own_append (P := P) (ty := o.type) ht hi hz hsz hby hzs h hB xv more hs h63
  unfold Oper.wp
  simp [execOp, ho, resolve, invoke, builtin, hv, hx, hrun, Result.andThen]
  exact hK v' w' r1 r2
def hd4 (n : Nat) (k : Int) : List UInt8 := [UInt8.ofNat (n / 65536), UInt8.ofNat (n / 256), UInt8.ofNat n, UInt8.ofNat k.toNat]
theorem bv_ofNat (n : Nat) : bv (UInt8.ofNat n) = .int .u8 (IntKind.u8.wrap (n : Int)) := by
  unfold bv
  rw [IntKind.wrap_u8', UInt8.toNat_ofNat']
  congr 1
theorem hd4_src (n : Nat) (k : Int) (hk : 0 ≤ k) {W : World} {g : Nat} (h : Blk W g 5 #[.int .u8 (IntKind.u8.wrap ((n : Int) / 65536)), .int .u8 (IntKind.u8.wrap ((n : Int) / 256)), .int .u8 (IntKind.u8.wrap (n : Int)), .int .u8 (IntKind.u8.wrap k)]) :
    Src Try.prog 1 22 (.slice (some ⟨g, 0, none⟩) 4 4) (hd4 n k).length ((hd4 n k).map bv) W := by
  obtain ⟨K, rfl⟩ := Int.eq_ofNat_of_zero_le hk
  refine Src.ofSlice W Try.underlying22 _ 4 4 _ rfl (fun j u hu => ?_) (fun u hu => by
    obtain ⟨x, _, rfl⟩ := List.mem_map.1 hu
    rfl)
  rw [add_plain, Nat.zero_add, h.cell j]
  simp only [hd4, List.map_cons, List.map_nil, bv_ofNat, Int.toNat_natCast, Int.natCast_ediv] at hu
  simpa using hu
theorem blk_two (w : World) (o : Obj) (t : TypeId) (cs : Array Value) : Blk (((w.alloc o).drew).alloc (.cells cs t)) (w.heap.size + 1) t cs := by
  have h := Blk.new (w.alloc o).drew t cs
  have e : ((w.alloc o).drew).heap.size = w.heap.size + 1 := by simp
  rw [e] at h
  exact h
theorem str_src (s : ByteArray) (W : World) : Src Try.prog 1 9 (.string s) s.data.toList.length (s.data.toList.map bv) W := by
  have h := Src.ofString (P := Try.prog) (tx := 9) W Try.underlying9 s
  have e : s.data.toList.length = s.size := Array.length_toList
  rw [e]
  exact h
def sm2 (m : Int) : List UInt8 := [UInt8.ofNat (m / 256).toNat, UInt8.ofNat m.toNat]
theorem sm2_src (m : Int) (h0 : 0 ≤ m) {W : World} {g : Nat} (h : Blk W g 5 #[.int .u8 (m / 256 % 256), .int .u8 (m % 256)]) :
    Src Try.prog 1 22 (.slice (some ⟨g, 0, none⟩) 2 2) (sm2 m).length ((sm2 m).map bv) W := by
  obtain ⟨M, rfl⟩ := Int.eq_ofNat_of_zero_le h0
  refine Src.ofSlice W Try.underlying22 _ 2 2 _ rfl (fun j u hu => ?_) (fun u hu => by
    obtain ⟨x, _, rfl⟩ := List.mem_map.1 hu
    rfl)
  rw [add_plain, Nat.zero_add, h.cell j]
  simp only [sm2, List.map_cons, List.map_nil, bv_ofNat, Int.toNat_natCast, IntKind.wrap_u8', Int.toNat_of_nonneg (show 0 ≤ (M : Int) / 256 by omega)] at hu
  simpa using hu
theorem fsm_nonneg (k : Int) (l : List UInt8) : 0 ≤ fsm k l := by
  have := sts_rng k l
  unfold fsm; omega
def pbs (k : Int) (s : ByteArray) : List UInt8 := hd4 s.size k ++ s.data.toList ++ sm2 (fsm k s.data.toList)
theorem pbs_length (k : Int) (s : ByteArray) : (pbs k s).length = s.size + 6 := by
  have e : s.data.toList.length = s.size := Array.length_toList
  simp only [pbs, hd4, sm2, List.length_append, e, List.length_cons, List.length_nil]; omega
set_option maxHeartbeats 1000000 in
theorem put_ok {A : Option Addr} {len cap b off : Nat} {w : World} {l : List UInt8} (h : Byt w A len cap b off l) (hm : len ≤ 1000000) (k : Int) (s : ByteArray) (hk : 0 ≤ k) (hk2 : k ≤ 255) (hs : s.size ≤ 20000) :
    Calls Try.prog 10 #[.slice A len cap, .agg #[.int .i64 k, .string s]] w fun e w' => ∃ v, e = .returned (.tuple #[v, .int .i64 0]) ∧ Own 5 w.heap.size w' v (l ++ pbs k s) ∧ Below w.heap.size w w' := by
  have HB := Lib.hid h
  have CS := Lib.hid (fun W => sum_any k s W (by unfold maxLen; omega))
  clear h
  go_enter Try.func10, Try.ntmps10
  go_wp2_with (go_at_call 12; refine (CS.out _).mono ?_; rintro _ w1 ⟨rfl, rfl⟩)
  obtain ⟨i0, hi, hz0, hz1, hz2⟩ := info_parts info5
  have HL := Lib.hid (show l.length + (hd4 s.size k).length ≤ 140737488355328 by rw [HB.out.hlen]; simp [hd4]; omega)
  have HM := Lib.hid (show len ≤ 140737488355328 by omega)
  go_region_law? (first
    | (go_simp; go_at_call 14; refine Calls.mono (clone_any (HB.out.below ?bel) HM.out) ?_
       case bel => exact (by repeat (first | exact Below.refl _ _ | refine Below.drew ?_ | refine Below.alloc ?_ (by simp <;> omega) _))
       rintro _ w2 ⟨v, rfl, h1, h2⟩
       have c0 : w2.cell? ⟨w.heap.size, 0, none⟩ = some (.int .i64 k) := (h2.cell (p := ⟨w.heap.size, 0, none⟩) (by simp <;> omega)).trans (by simp [go_sem])
       have HX2 := Lib.hid (show Blk w2 w.heap.size 25 #[.int .i64 k, .string s] from by first | exact Blk.below ((Blk.new w 25 _).drew) h2 (by simp <;> omega) | exact Blk.below (((Blk.new w 25 _).drew).alloc _) h2 (by simp <;> omega))
       have HW2 := Lib.hid (show Below w.heap.size w w2 from Below.trans (by repeat (first | exact Below.refl _ _ | refine Below.drew ?_ | refine Below.alloc ?_ (by simp <;> omega) _)) (h2.mono (by simp <;> omega)))
       have H1 := Lib.hid h1
       have H2 := Lib.hid h2
       clear h1 h2
       go_simp)
    | (refine step_own_append (e := 5) (t := 22) (tx := 22) (z := .int .u8 0) (i := i0) (B := w.heap.size + 1) (v := v) (l := l) rfl (.tmp 28) (.tmp 40) rfl Try.underlying22 hi hz0 hz1 hz2 rfl ?hv ?own ?hB (.slice (some ⟨w2.heap.size, 0, none⟩) 4 4) ?hx (hd4 s.size k) ?src ?h63 ?_
       case hx => rfl
       case hv => rfl
       case own => exact (H1.out.below ((Below.refl _ _).alloc (Nat.le_refl _) _)).mono (by simp <;> omega)
       case hB => (have h9 := H2.out.size; simp at h9 ⊢; omega)
       case src => exact hd4_src _ _ hk (Blk.new _ _ _)
       case h63 => exact HL.out
       intro v' w' h1 h2
       have H3 := Lib.hid h1
       have HX3 := Lib.hid ((HX2.out.alloc _).below h2 (Nat.lt_succ_self _))
       have HW3 := Lib.hid ((HW2.out.alloc (by have := H2.out.size; simp at this ⊢; omega) _).trans (h2.mono (Nat.le_succ _)))
       clear h1 h2)
    | (refine step_own_append (e := 5) (t := 22) (tx := 22) (z := .int .u8 0) (i := i0) (B := w.heap.size + 1) (v := v) (l := l) rfl (.tmp 28) (.tmp 40) rfl Try.underlying22 hi hz0 hz1 hz2 rfl ?hv ?own ?hB (.slice (some ⟨w.heap.size + 1, 0, none⟩) 4 4) ?hx (hd4 s.size k) ?src ?h63 ?_
       case hx => rfl
       case hv => rfl
       case own => exact H1.out.mono (by simp <;> omega)
       case hB => (have h9 := H2.out.size; simp at h9 ⊢; omega)
       case src => exact hd4_src _ _ hk ((blk_two _ _ _ _).below H2.out (by simp <;> omega))
       case h63 => exact HL.out
       intro v' w' h1 h2
       have H3 := Lib.hid h1
       have HX3 := Lib.hid (HX2.out.below h2 (Nat.lt_succ_self _))
       have HW3 := Lib.hid (HW2.out.trans (h2.mono (Nat.le_succ _)))
       clear h1 h2)
    | fail)
  all_goals (
    have c1 := HX3.out.cell 1
    simp only [List.getElem?_toArray, List.getElem?_cons_zero, List.getElem?_cons_succ] at c1
    have HL2 := Lib.hid (show (l ++ hd4 s.size k).length + s.data.toList.length ≤ 140737488355328 from by have h9 := HL.out; have e : s.data.toList.length = s.size := Array.length_toList; rw [List.length_append, HB.out.hlen, e]; simp [hd4]; omega)
    have HL3 := Lib.hid (show (l ++ (hd4 s.size k ++ s.data.toList)).length + (sm2 (fsm k s.data.toList)).length ≤ 140737488355328 from by have e : s.data.toList.length = s.size := Array.length_toList; rw [List.length_append, List.length_append, HB.out.hlen, e]; simp [hd4, sm2]; omega)
    have HS3 : w.heap.size + 1 ≤ w'.heap.size := HX3.out.lt
    go_wp2_with (at_builtin; refine wpList_own_append (t := 22) (tx := 9) (z := .int .u8 0) _ rfl (.tmp 42) (.tmp 44) rfl Try.underlying22 hi hz0 hz1 hz2 rfl rfl H3.out ?hB2 _ rfl s.data.toList (str_src s _) HL2.out ?hK2)
    case hB2 => omega
    case hK2 =>
      intro v4 w4 h1 h2
      have H4 := Lib.hid h1
      have HS4 := h2.size
      have HW4 := Lib.hid (HW3.out.trans (h2.mono (Nat.le_succ _)))
      clear h1 h2
      go_wp2_with (at_builtin; refine wpList_own_append (e := 5) (t := 22) (tx := 22) (z := .int .u8 0) (i := i0) (B := w.heap.size + 1) (v := v4) (l := l ++ (hd4 s.size k ++ s.data.toList)) _ rfl (.tmp 46) (.tmp 52) rfl Try.underlying22 hi hz0 hz1 hz2 rfl rfl ?own ?hB (.slice (some ⟨w4.heap.size, 0, none⟩) 2 2) rfl (sm2 (fsm k s.data.toList)) (sm2_src _ ?f0 (Blk.new _ _ _)) ?h63 ?hK)
      case own => exact H4.out.below ((Below.refl _ _).alloc (Nat.le_refl _) _)
      case hB => (have h9 := HW4.out.size; have h8 := HS4; simp; omega)
      case f0 => exact fsm_nonneg _ _
      case h63 => exact HL3.out
      case hK =>
        intro v5 w5 h1 h2
        have H5 := Lib.hid h1
        have HW5 := Lib.hid ((HW4.out.alloc HW4.out.size _).trans (h2.mono (Nat.le_succ _)))
        clear h1 h2
        go_wp2
        go_ret2
        exact ⟨v5, rfl, by have := H5.out.mono (Nat.le_succ w.heap.size); simpa [pbs] using this, HW5.out⟩)
end Go.Proofs.Ytcopdhgmbflcoaa
