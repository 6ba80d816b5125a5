/- the document's own Changes. -/
import Derived.Test.YtlcchkpjcekinaaGreatDoorZbc
/- merge: DeleteFunc at fields; without; Changes. -/
namespace Go.Proofs.YtlcchkpjcekinaaGreatDoor
open Go.RowKit
open Go.Lib hiding intOf
open Go.Sort Go.Proofs
set_option linter.unusedVariables false
set_option linter.unusedSimpArgs false
set_option maxRecDepth 100000
theorem lay_list : ∀ (xs D : List F3) (k : Nat), k + xs.length ≤ D.length → Lib.lay D.toArray k xs = (D.take k ++ (xs ++ D.drop (k + xs.length))).toArray
  | [], D, k, _ => by
    show D.toArray = _
    simp
  | x :: r, D, k, h => by
    have hl : k + (r.length + 1) ≤ D.length := by simpa using h
    show Lib.lay (D.toArray.setIfInBounds k x) (k + 1) r = _
    rw [List.setIfInBounds_toArray, lay_list r (D.set k x) (k + 1) (by simp; omega)]
    have e1 : (D.set k x).take (k + 1) = D.take k ++ [x] := by
      rw [List.take_add_one, List.getElem?_set_self (by omega), List.take_set, List.set_eq_of_length_le (by simp; omega)]
      rfl
    have e2 : (D.set k x).drop (k + 1 + r.length) = D.drop (k + (x :: r).length) := by
      rw [List.drop_set_of_lt (by omega)]
      congr 1
      simp
      omega
    rw [e1, e2]
    simp
theorem set_take {D : List F3} {k : Nat} (x : F3) (h : k < D.length) : (D.set k x).take (k + 1) = D.take k ++ [x] := by
  rw [List.take_add_one, List.getElem?_set_self h, List.take_set, List.set_eq_of_length_le (by simp; omega)]
  rfl
theorem holds_fv_o {w : World} {g o cap : Nat} {L : List F3} (h : HoldsK encF 3 w g o L.toArray) (hg : g < w.heap.size) (hc : L.length ≤ cap) : Fv w (some ⟨g, o, none⟩) cap g o L :=
  ⟨hc, fun j f hj => by
    have hl := (List.getElem?_eq_some_iff.1 hj).1
    have he := (List.getElem?_eq_some_iff.1 hj).2
    obtain ⟨a0, a1, a2, _, _, _⟩ := holds3 h (i := j) (by simpa using hl) (x := f) (by rw [getElem!_pos L.toArray j (by simpa using hl)]; simpa using he)
    exact ⟨rfl, hg, a0, a1, a2⟩⟩
theorem drop_get {D L : List F3} {j : Nat} (h : D.drop j = L.drop j) : D[j]? = L[j]? := by
  have := congrArg (fun l : List F3 => l[0]?) h
  simpa using this
theorem arr_get {D : List F3} {j : Nat} {f : F3} (h : D[j]? = some f) : D.toArray[j]! = f := by
  have hl := (List.getElem?_eq_some_iff.1 h).1
  have he := (List.getElem?_eq_some_iff.1 h).2
  rw [getElem!_pos D.toArray j (by simpa using hl)]
  simpa using he
theorem below_setCells {B : Nat} {w0 : World} (g : Nat) : ∀ (vs : List Value) (off : Nat) {w : World}, Below B w0 w → B ≤ g → Below B w0 (w.setCells g off vs)
  | [], _, _, h, _ => h
  | v :: vs, off, _, h, hg => below_setCells g vs (off + 1) (h.setCell (p := ⟨g, off, none⟩) hg v) hg
set_option maxHeartbeats 8000000 in
theorem delF_row {w0 w : World} {B : Nat} (hBB : w0.heap.size = B) (hbw : Below B w0 w) {g o cap n : Nat} {L : List F3} (hn : L.length = n) (hH : HoldsK encF 3 w g o L.toArray) (hgB : B ≤ g) (hg : g < w.heap.size) (hnc : n ≤ cap) (hcm : cap ≤ maxLen) (hs : n ≤ 100000)
    {b0 : Nat} {AO : Option Addr} {cO bO oO : Nat} {O : List F3} (hO : Fv w0 AO cO bO oO O) (nO : Nat) (hnO : O.length = nO) (hsO : nO ≤ 100000) (hb0 : Blk w0 b0 27 #[.slice AO nO cO]) :
    Calls Tryz.prog 37 #[.slice (some ⟨g, o, none⟩) n cap, .func (.func 39) #[] #[.pointer (some ⟨b0, 0, none⟩)]] w fun e w' => e = .returned (.slice (some ⟨g, o, none⟩) (L.filter (kpF O)).length cap) ∧ (∃ rest, HoldsK encF 3 w' g o (L.filter (kpF O) ++ rest).toArray) ∧ g < w'.heap.size ∧ Below B w0 w' := by
  have HBB := Lib.hid hBB
  have HBW := Lib.hid hbw
  have HN := Lib.hid hn
  have HH := Lib.hid hH
  have HGB := Lib.hid hgB
  have HG := Lib.hid hg
  have HS := Lib.hid (show B ≤ w.heap.size from by have := hbw.size; omega)
  have HCL := Lib.hid (fun (v : World) (hv : Below B w0 v) f => clos_any (hO.below (hBB ▸ hv)) nO hnO hsO (hb0.below hv (hBB ▸ hb0.lt)) f)
  have HIX := Lib.hid (indexF_any (holds_fv_o hH hg (hn ▸ hnc)) n hn hs (hO.below (hBB ▸ hbw)) nO hnO hsO (hb0.below hbw (hBB ▸ hb0.lt)))
  have hcapI : (cap : Int) ≤ 9223372036854775807 := by unfold maxLen at hcm; omega
  clear hBB hbw hn hH hgB hg hO hb0 hnO
  go_enter Tryz.func37, Tryz.ntmps37
  go_wp2_with fail
  refine HIX.out.mono ?_
  rintro e w1 ⟨⟨rfl, he⟩ | ⟨k, rfl, hk, he⟩, hb⟩
  · have HE := Lib.hid he
    have HB1 := Lib.hid (HBW.out.trans (hb.mono HS.out))
    have HH1 := Lib.hid (holdsK_below HH.out hb HG.out)
    have HG1 := Lib.hid (Nat.lt_of_lt_of_le HG.out hb.size)
    clear he hb
    go_wp2
    go_ret
    refine ⟨?_, ?_, HG1.out, HB1.out⟩
    · rw [HE.out, HN.out]; rfl
    · exact ⟨[], by rw [HE.out, List.append_nil]; exact HH1.out⟩
  · have HE := Lib.hid he
    have HB1 := Lib.hid (HBW.out.trans (hb.mono HS.out))
    have HH1 := Lib.hid (holdsK_below HH.out hb HG.out)
    have HG1 := Lib.hid (Nat.lt_of_lt_of_le HG.out hb.size)
    have hkz : ((k : Int) == -1) = false := by simp <;> omega
    have ik : IntKind.i64.wrap ((k : Int) + 1) = ((k + 1 : Nat) : Int) := by rw [IntWalk.i64_in _ (by omega)]; omega
    clear he hb
    go_wp2_with fail
    go_loopw [5, 6] (fun s5 s6 wr => ∃ (i j : Nat) (D : List F3), s5 = .int .i64 (i : Int) ∧ s6 = .int .i64 (j : Int) ∧ i < j ∧ j ≤ n ∧ D.length = n ∧ D.take i = (L.take j).filter (kpF O) ∧ ((L.take j).filter (kpF O)).length = i ∧ D.drop j = L.drop j ∧ HoldsK encF 3 wr g o D.toArray ∧ g < wr.heap.size ∧ Below B w0 wr) (fun _ s6 _ => n - (intOf s6).toNat)
    case atStart => exact ⟨k, k + 1, L, rfl, by go_num, by omega, by omega, HN.out, HE.out.symm, by rw [HE.out, List.length_take, HN.out]; omega, rfl, HH1.out, HG1.out, HB1.out⟩
    case round =>
      clear HE hk hkz ik
      obtain ⟨i, j, D, rfl, rfl, hij, hjn, hD, hti, hli, hdr, hHk, hgr, hb⟩ := hrel
      have HD := Lib.hid hD
      have HTI := Lib.hid hti
      have HLI := Lib.hid hli
      have HDR := Lib.hid hdr
      have HHK := Lib.hid hHk
      have HGR := Lib.hid hgr
      have HB := Lib.hid hb
      have HBs := Lib.hid (show B ≤ wr.heap.size from by have := hb.size; have := HBB.out; omega)
      clear hD hti hli hdr hHk hgr hb
      by_cases hql : j < n
      · obtain ⟨f, hf⟩ : ∃ f, L[j]? = some f := ⟨L[j]'(by rw [HN.out]; exact hql), List.getElem?_eq_getElem _⟩
        obtain ⟨c0, c1, c2, _, _, _⟩ := holds3 HHK.out (i := j) (by simp [HD.out]; omega) (arr_get ((drop_get HDR.out).trans hf))
        have HYES := Lib.hid (fun (hp : kpF O f = true) => filt_yes hf hp)
        have HNO := Lib.hid (fun (hp : kpF O f = false) => filt_no hf hp)
        have HC := Lib.hid (fun v hv => HCL.out v hv f)
        have hkp : kpF O f = !hasF f O := rfl
        obtain ⟨r, hr⟩ : ∃ r, hasF f O = r := ⟨_, rfl⟩
        rw [hr] at HC hkp
        have HKP := Lib.hid hkp
        have HDN := Lib.hid (show D.drop (j + 1) = L.drop (j + 1) from by
          have := congrArg (List.drop 1) HDR.out
          simpa [List.drop_drop] using this)
        obtain ⟨zz, hzz⟩ : ∃ z, D[i]? = some z := ⟨D[i]'(by rw [HD.out]; omega), List.getElem?_eq_getElem _⟩
        have HZZ := Lib.hid hzz
        obtain ⟨f1, f2, f3⟩ := f
        obtain ⟨z1, z2, z3'⟩ := zz
        simp only at c0 c1 c2 HC
        have hqI : (j : Int) < (n : Int) := by omega
        have hqJ : (0 : Int) ≤ (j : Int) := by omega
        have hiI : (i : Int) < (n : Int) := by omega
        have hiJ : (0 : Int) ≤ (i : Int) := by omega
        have i1 : IntKind.i64.wrap ((j : Int) + 1) = ((j + 1 : Nat) : Int) := by rw [IntWalk.i64_in _ (by omega)]; omega
        have i2 : IntKind.i64.wrap ((i : Int) + 1) = ((i + 1 : Nat) : Int) := by rw [IntWalk.i64_in _ (by omega)]; omega
        clear hf hr hkp hzz
        cases r with
        | true =>
          go_wp2_with (first
            | (go_at_call 39; (with_reducible refine (HC.out _ (HB.out.alloc HBs.out _)).mono ?_); rintro _ u1 ⟨rfl, hb⟩; have hb2 := ((Below.refl wr.heap.size wr).alloc (Nat.le_refl _) (.cells #[.int .i64 f1, .int .i64 f2, .string f3] 37)).trans (hb.mono ((Below.refl wr.heap.size wr).alloc (Nat.le_refl _) (.cells #[.int .i64 f1, .int .i64 f2, .string f3] 37)).size); have HU1 := Lib.hid (HB.out.trans (hb2.mono HBs.out)); have HHK1 := Lib.hid (holdsK_below HHK.out hb2 HGR.out); have HGR1 := Lib.hid (Nat.lt_of_lt_of_le HGR.out hb2.size); have HY := Lib.hid ((Blk.new wr 37 #[.int .i64 f1, .int .i64 f2, .string f3]).below hb (Blk.new wr 37 #[.int .i64 f1, .int .i64 f2, .string f3]).lt); have y0 := HY.out.cell 0; have y1 := HY.out.cell 1; have y2 := HY.out.cell 2; simp only [List.getElem?_toArray, List.getElem?_cons_zero, List.getElem?_cons_succ] at y0 y1 y2; clear hb hb2)
            | fail)
          go_wp2_with fail
          go_roundw
          case rel => exact ⟨i, j + 1, D, rfl, by go_num, by omega, by omega, HD.out, by rw [HTI.out, HNO.out HKP.out], by rw [HNO.out HKP.out, HLI.out], HDN.out, HHK1.out, HGR1.out, HU1.out⟩
          case measure => simp [intOf]; omega
        | false =>
          go_wp2_with (first
            | (go_at_call 39; (with_reducible refine (HC.out _ (HB.out.alloc HBs.out _)).mono ?_); rintro _ u1 ⟨rfl, hb⟩; have hb2 := ((Below.refl wr.heap.size wr).alloc (Nat.le_refl _) (.cells #[.int .i64 f1, .int .i64 f2, .string f3] 37)).trans (hb.mono ((Below.refl wr.heap.size wr).alloc (Nat.le_refl _) (.cells #[.int .i64 f1, .int .i64 f2, .string f3] 37)).size); have HU1 := Lib.hid (HB.out.trans (hb2.mono HBs.out)); have HHK1 := Lib.hid (holdsK_below HHK.out hb2 HGR.out); have HGR1 := Lib.hid (Nat.lt_of_lt_of_le HGR.out hb2.size); have HY := Lib.hid ((Blk.new wr 37 #[.int .i64 f1, .int .i64 f2, .string f3]).below hb (Blk.new wr 37 #[.int .i64 f1, .int .i64 f2, .string f3]).lt); have y0 := HY.out.cell 0; have y1 := HY.out.cell 1; have y2 := HY.out.cell 2; simp only [List.getElem?_toArray, List.getElem?_cons_zero, List.getElem?_cons_succ] at y0 y1 y2; clear hb hb2; obtain ⟨r0, r1, r2, fz0, fz1, fz2⟩ := holds3 HHK1.out (i := i) (by simp [HD.out]; omega) (arr_get HZZ.out); simp only at r0 r1 r2)
            | fail)
          go_wp2_with fail
          go_roundw
          case rel =>
            refine ⟨i + 1, j + 1, D.set i (f1, f2, f3), by go_num, by go_num, by omega, by omega, by rw [List.length_set]; exact HD.out, by rw [set_take _ (by rw [HD.out]; omega), HTI.out, HYES.out HKP.out], by rw [HYES.out HKP.out, List.length_append, HLI.out]; rfl, by rw [List.drop_set_of_lt (by omega)]; exact HDN.out, ?_, ?_, ?_⟩
            · have := holdsK_set HHK1.out (i := i) (by simp [HD.out]; omega) f1 f2 f3
              rwa [List.setIfInBounds_toArray] at this
            · simpa [World.setCell] using HGR1.out
            · exact ((HU1.out.setCell (p := ⟨g, o + i * 3, none⟩) HGB.out _).setCell (p := ⟨g, o + i * 3 + 1, none⟩) HGB.out _).setCell (p := ⟨g, o + i * 3 + 2, none⟩) HGB.out _
          case measure => simp [intOf]; omega
      · have hqe : j = n := by omega
        have hqI : ¬ (j : Int) < (n : Int) := by omega
        have hiI : (i : Int) ≤ (n : Int) := by omega
        have hiJ : (0 : Int) ≤ (i : Int) := by omega
        have hic : (i : Int) ≤ (cap : Int) := by omega
        have hfl : L.filter (kpF O) = D.take i ∧ (L.filter (kpF O)).length = i := by
          have h1 := HTI.out
          have h2 := HLI.out
          rw [hqe, ← HN.out, List.take_length] at h1 h2
          exact ⟨h1.symm, h2⟩
        have HFL := Lib.hid hfl
        have hwr : (putRowK encF 3 wr g o D.toArray) = wr := putRowK_self encF 3 wr g o D.toArray HHK.out
        have hset := cells3_world wr g o (List.replicate (n - i) z3) D.toArray i (by simp [HD.out]; omega)
        rw [hwr, lay_list _ _ _ (by simp [HD.out]; omega)] at hset
        have hcl : ∀ ty, (Builtin.clear_ #[27] ty #[.slice (some ⟨g, o + i * 3, none⟩) (n - i) (cap - i)]).run Tryz.prog wr = .ok (.tuple #[]) (wr.setCells g (o + i * 3) (encL (List.replicate (n - i) z3))) :=
          fun ty => run_clear3 wr ty g (o + i * 3) (n - i) (cap - i) (by omega)
            (fun t ht => by
              have := (HHK.out (i * 3 + t) (by rw [size_flatK]; simp [HD.out]; omega)).1
              rw [show o + i * 3 + t = o + (i * 3 + t) by omega, this]; rfl)
            (fun t ht => by
              rw [show o + i * 3 + t = o + (i * 3 + t) by omega]
              exact (HHK.out (i * 3 + t) (by rw [size_flatK]; simp [HD.out]; omega)).2)
        have HFIN := Lib.hid hset
        clear hfl hwr hset hql hqe
        go_wp2
        go_ret
        refine ⟨by rw [HFL.out.2]; rfl, ⟨List.replicate (n - i) z3 ++ D.drop (i + (List.replicate (n - i) z3).length), ?_⟩, ?_, ?_⟩
        · rw [HFIN.out, HFL.out.1]
          exact holdsK_putRowK encF 3 wr g o D.toArray _ HHK.out (by simp [HD.out]; omega)
        · exact Nat.lt_of_lt_of_le HGR.out (below_setCells g _ _ (Below.refl 0 wr) (Nat.zero_le _)).size
        · exact below_setCells g _ _ HB.out HGB.out
end Go.Proofs.YtlcchkpjcekinaaGreatDoor
/- merge: without; Changes. -/
namespace Go.Proofs.YtlcchkpjcekinaaGreatDoor
open Go.RowKit
open Go.Lib hiding intOf
open Go.Sort Go.Proofs
set_option linter.unusedVariables false
set_option linter.unusedSimpArgs false
set_option maxRecDepth 100000
theorem delF_zero {w : World} (A : Option Addr) (cap : Nat) {b0 : Nat} {AO : Option Addr} {cO bO oO : Nat} {O : List F3} (hO : Fv w AO cO bO oO O) (nO : Nat) (hnO : O.length = nO) (hsO : nO ≤ 100000) (hb0 : Blk w b0 27 #[.slice AO nO cO]) :
    Calls Tryz.prog 37 #[.slice A 0 cap, .func (.func 39) #[] #[.pointer (some ⟨b0, 0, none⟩)]] w fun e w' => e = .returned (.slice A 0 cap) ∧ Below w.heap.size w w' := by
  have HIX := Lib.hid (indexF_any (fv_nil w A cap 0) 0 rfl (by omega) hO nO hnO hsO hb0)
  clear hO hb0 hnO
  go_enter Tryz.func37, Tryz.ntmps37
  go_wp2_with fail
  refine HIX.out.mono ?_
  rintro e w1 ⟨⟨rfl, he⟩ | ⟨k, rfl, hk, he⟩, hb⟩
  · have HB1 := Lib.hid hb
    clear he hb
    go_wp2
    go_ret
    exact ⟨rfl, HB1.out⟩
  · exact absurd hk (Nat.not_lt_zero _)
set_option maxHeartbeats 4000000 in
theorem without_any {w : World} {A : Option Addr} {cap b off : Nat} {L : List F3} (h : Fv w A cap b off L) (n : Nat) (hn : L.length = n) (hs : n ≤ 100000) {AO : Option Addr} {cO bO oO : Nat} {O : List F3} (hO : Fv w AO cO bO oO O) (nO : Nat) (hnO : O.length = nO) (hsO : nO ≤ 100000) (m : Nat) (hm : (L.filter (kpF O)).length = m) :
    Calls Tryz.prog 26 #[.slice A n cap, .slice AO nO cO] w fun e w' => ∃ A' cap' g, e = .returned (.slice A' m cap') ∧ Fv w' A' cap' g 0 (L.filter (kpF O)) ∧ (A' = none → cap' = 0) ∧ Below w.heap.size w w' := by
  obtain ⟨b0, hb0⟩ : ∃ b0, w.heap.size = b0 := ⟨_, rfl⟩
  obtain ⟨W1, hW1⟩ : ∃ W1, w.alloc (.cells #[.slice AO nO cO] 27) = W1 := ⟨_, rfl⟩
  have HY := Lib.hid (show Blk W1 b0 27 #[.slice AO nO cO] from hb0 ▸ hW1 ▸ Blk.new w 27 _)
  have HB1 := Lib.hid (show Below w.heap.size w W1 from hW1 ▸ (Below.refl _ w).alloc (Nat.le_refl _) _)
  have HCL := Lib.hid (clone_any (h.below HB1.out) n hn hs)
  have HO1 := Lib.hid (hO.below HB1.out)
  have HN := Lib.hid hn
  have HNO := Lib.hid hnO
  have HM := Lib.hid hm
  have HW1 := Lib.hid hW1
  have HB0 := Lib.hid hb0
  clear h hn hO hnO hm hW1 hb0
  go_enter Tryz.func26, Tryz.ntmps26
  go_wp2_with fail
  rw [HW1.out]
  refine HCL.out.mono ?_
  rintro _ w2 ⟨V, rfl, hrow, hb⟩
  have HB12 := Lib.hid hb
  have HB2 := Lib.hid (HB1.out.trans (hb.mono HB1.out.size))
  have HROW := Lib.hid hrow
  have HS1 := Lib.hid HB1.out.size
  clear hb hrow
  by_cases hz : n = 0
  · obtain ⟨A0, cap0, rfl, hnc⟩ : ∃ A0 cap0, V = .slice A0 0 cap0 ∧ (A0 = none → cap0 = 0) := by
      obtain ⟨_, ⟨e, _⟩ | ⟨g, cap, cur, e, _⟩⟩ := HROW.out
      · exact ⟨_, _, e, fun _ => rfl⟩
      · rw [hz] at e; exact ⟨_, _, e, fun h => by cases h⟩
    have HNC := Lib.hid hnc
    clear hnc
    have HL := Lib.hid (show L = [] from List.eq_nil_of_length_eq_zero (by have := HN.out; omega))
    have HD := Lib.hid (delF_zero A0 cap0 (HO1.out.below HB12.out) nO HNO.out hsO (HY.out.below HB12.out HY.out.lt))
    clear hz
    go_wp2_with (first
      | (go_at_call 37; rw [HB0.out]; refine HD.out.mono ?_; rintro _ w3 ⟨rfl, hb⟩; have HB3 := Lib.hid (HB2.out.trans (hb.mono HB2.out.size)); clear hb)
      | fail)
    go_ret
    have hM := HM.out
    rw [HL.out] at hM ⊢
    obtain rfl : m = 0 := hM.symm
    exact ⟨A0, cap0, 0, rfl, fv_nil _ _ _ _, HNC.out, HB3.out⟩
  · obtain ⟨g, gc, rfl, hBg, hgl, hgc, hgm, hHo⟩ := holds_fr3 HROW.out HN.out (by omega)
    have HD := Lib.hid (delF_row rfl HB12.out HN.out hHo hBg hgl hgc hgm hs HO1.out nO HNO.out hsO HY.out)
    have hlc := List.length_filter_le (kpF O) L
    have HLC := Lib.hid (show (L.filter (kpF O)).length ≤ gc from by have := HN.out; omega)
    clear hz hBg hgl hgc hgm hHo hlc
    rw [HM.out] at HD
    go_wp2_with (first
      | (go_at_call 37; rw [HB0.out]; refine HD.out.mono ?_; rintro _ w3 ⟨rfl, ⟨rest, hH⟩, hg, hb⟩; have HB3 := Lib.hid (HB1.out.trans (hb.mono HS1.out)); have HF := Lib.hid (holds_fv hH hg HLC.out); clear hb hH)
      | fail)
    go_ret
    exact ⟨_, _, _, rfl, HF.out, (fun h => by cases h), HB3.out⟩
def chgS (a b : ByteArray) : List F3 × List F3 × Int :=
  if isC a && isC b then ((parL a).1.filter (kpF (parL b).1), (parL b).1.filter (kpF (parL a).1), 0) else ([], [], 1)
set_option maxHeartbeats 4000000 in
theorem changes_any (a b : ByteArray) (ha : a.size ≤ 1000000) (hb : b.size ≤ 1000000) (G C : List F3) (e : Int) (hr : chgS a b = (G, C, e)) (mG mC : Nat) (hG : G.length = mG) (hC : C.length = mC) (w : World) (hE : Env w) :
    Calls Tryz.prog 12 #[.string a, .string b] w fun x w' => ∃ A1 c1 g1 A2 c2 g2, x = .returned (.tuple #[.slice A1 mG c1, .slice A2 mC c2, .int .i64 e]) ∧ Fv w' A1 c1 g1 0 G ∧ Fv w' A2 c2 g2 0 C ∧ (A1 = none → c1 = 0) ∧ (A2 = none → c2 = 0) ∧ Below w.heap.size w w' := by
  obtain ⟨X, e1, hp1⟩ : ∃ W e1, parL a = (W, e1) := ⟨_, _, rfl⟩
  obtain ⟨Y, e2, hp2⟩ : ∃ W e1, parL b = (W, e1) := ⟨_, _, rfl⟩
  obtain ⟨nX, hnX⟩ : ∃ m, X.length = m := ⟨_, rfl⟩
  obtain ⟨nY, hnY⟩ : ∃ m, Y.length = m := ⟨_, rfl⟩
  have HE := Lib.hid hE
  have HNX := Lib.hid hnX
  have HNY := Lib.hid hnY
  have HLX := Lib.hid (show nX ≤ 900 from by have := parL_len a; rw [hp1] at this; simp only at this; omega)
  have HLY := Lib.hid (show nY ≤ 900 from by have := parL_len b; rw [hp2] at this; simp only at this; omega)
  have HP1 := Lib.hid (fun v (h : Env v) => cparse_on a ha X e1 hp1 nX hnX v h)
  have HP2 := Lib.hid (fun v (h : Env v) => cparse_on b hb Y e2 hp2 nY hnY v h)
  have HC1 := Lib.hid (show (isC a = true ∧ e1 = 0) ∨ (isC a = false ∧ e1 = 1) from by
    cases h : isC a with
    | true => have := isC_card h; rw [hp1] at this; exact .inl ⟨rfl, this.1⟩
    | false => have := isC_not h; rw [hp1] at this; exact .inr ⟨rfl, this⟩)
  have HC2 := Lib.hid (show (isC b = true ∧ e2 = 0) ∨ (isC b = false ∧ e2 = 1) from by
    cases h : isC b with
    | true => have := isC_card h; rw [hp2] at this; exact .inl ⟨rfl, this.1⟩
    | false => have := isC_not h; rw [hp2] at this; exact .inr ⟨rfl, this⟩)
  have HG := Lib.hid hG
  have HC := Lib.hid hC
  rcases HC1.out with ⟨hc1, rfl⟩ | ⟨hc1, rfl⟩
  · rcases HC2.out with ⟨hc2, rfl⟩ | ⟨hc2, rfl⟩
    · have hres : (X.filter (kpF Y), Y.filter (kpF X), (0 : Int)) = (G, C, e) := by rw [← hr]; unfold chgS; rw [hc1, hc2, hp1, hp2]; rfl
      obtain ⟨rfl, h2⟩ := Prod.mk.inj hres
      obtain ⟨rfl, rfl⟩ := Prod.mk.inj h2
      clear hr hp1 hp2 hnX hnY hE ha hb hc1 hc2 hres h2 hG hC
      go_enter Tryz.func12, Tryz.ntmps12
      go_wp2_with (first
        | (go_at_call 19; (with_reducible refine (HP1.out _ (HE.out.on (Below.refl _ _))).mono ?_); rintro _ w1 ⟨AX, cX, gX, rfl, hf, hb⟩; have HF1 := Lib.hid hf; have HB1 := Lib.hid hb; clear hf hb)
        | (go_at_call 19; (with_reducible refine (HP2.out _ (HE.out.on HB1.out)).mono ?_); rintro _ w2 ⟨AY, cY, gY, rfl, hf, hb⟩; have HF2 := Lib.hid hf; have HF1b := Lib.hid (HF1.out.below hb); have HB2 := Lib.hid (HB1.out.trans (hb.mono HB1.out.size)); clear hf hb)
        | fail)
      refine (without_any HF1b.out nX HNX.out (by have := HLX.out; omega) HF2.out nY HNY.out (by have := HLY.out; omega) mG HG.out).mono ?_
      rintro _ w3 ⟨A1, c1, g1, rfl, hf, hn1, hb⟩
      have HN1 := Lib.hid hn1
      clear hn1
      have HF3 := Lib.hid hf
      have HFX := Lib.hid (HF1b.out.below hb)
      have HFY := Lib.hid (HF2.out.below hb)
      have HB3 := Lib.hid (HB2.out.trans (hb.mono HB2.out.size))
      clear hf hb
      go_wp2_with fail
      refine (without_any HFY.out nY HNY.out (by have := HLY.out; omega) HFX.out nX HNX.out (by have := HLX.out; omega) mC HC.out).mono ?_
      rintro _ w4 ⟨A2, c2, g2, rfl, hf, hn2, hb⟩
      have HN2 := Lib.hid hn2
      clear hn2
      have HF4 := Lib.hid hf
      have HF3b := Lib.hid (HF3.out.below hb)
      have HB4 := Lib.hid (HB3.out.trans (hb.mono HB3.out.size))
      clear hf hb
      go_wp2
      go_ret3
      exact ⟨A1, c1, g1, A2, c2, g2, rfl, HF3b.out, HF4.out, HN1.out, HN2.out, HB4.out⟩
    · have hres : (([], [], 1) : List F3 × List F3 × Int) = (G, C, e) := by rw [← hr]; unfold chgS; rw [hc2]; simp
      obtain ⟨rfl, h2⟩ := Prod.mk.inj hres
      obtain ⟨rfl, rfl⟩ := Prod.mk.inj h2
      clear hr hp1 hp2 hnX hnY hE ha hb hres h2 HC1 HC2 hc2
      go_enter Tryz.func12, Tryz.ntmps12
      go_wp2_with (first
        | (go_at_call 19; (with_reducible refine (HP1.out _ (HE.out.on (Below.refl _ _))).mono ?_); rintro _ w1 ⟨AX, cX, gX, rfl, hf, hb⟩; have HF1 := Lib.hid hf; have HB1 := Lib.hid hb; clear hf hb)
        | (go_at_call 19; (with_reducible refine (HP2.out _ (HE.out.on HB1.out)).mono ?_); rintro _ w2 ⟨AY, cY, gY, rfl, hf, hb⟩; have HF2 := Lib.hid hf; have HF1b := Lib.hid (HF1.out.below hb); have HB2 := Lib.hid (HB1.out.trans (hb.mono HB1.out.size)); clear hf hb)
        | fail)
      go_ret3
      obtain rfl := hG
      obtain rfl := hC
      exact ⟨none, 0, 0, none, 0, 0, rfl, fv_nil _ _ _ _, fv_nil _ _ _ _, fun _ => rfl, fun _ => rfl, HB2.out⟩
  · have hres : (([], [], 1) : List F3 × List F3 × Int) = (G, C, e) := by rw [← hr]; unfold chgS; rw [hc1]; simp
    obtain ⟨rfl, h2⟩ := Prod.mk.inj hres
    obtain ⟨rfl, rfl⟩ := Prod.mk.inj h2
    clear hr hp1 hp2 hnX hnY hE ha hb hres h2 HC1 HC2 hc1
    go_enter Tryz.func12, Tryz.ntmps12
    go_wp2_with (first
      | (go_at_call 19; (with_reducible refine (HP1.out _ (HE.out.on (Below.refl _ _))).mono ?_); rintro _ w1 ⟨AX, cX, gX, rfl, hf, hb⟩; have HF1 := Lib.hid hf; have HB1 := Lib.hid hb; clear hf hb)
      | (go_at_call 19; (with_reducible refine (HP2.out _ (HE.out.on HB1.out)).mono ?_); rintro _ w2 ⟨AY, cY, gY, rfl, hf, hb⟩; have HF2 := Lib.hid hf; have HF1b := Lib.hid (HF1.out.below hb); have HB2 := Lib.hid (HB1.out.trans (hb.mono HB1.out.size)); clear hf hb)
      | fail)
    go_ret3
    obtain rfl := hG
    obtain rfl := hC
    exact ⟨none, 0, 0, none, 0, 0, rfl, fv_nil _ _ _ _, fv_nil _ _ _ _, fun _ => rfl, fun _ => rfl, HB2.out⟩
end Go.Proofs.YtlcchkpjcekinaaGreatDoor
namespace Go.Proofs.YtlcchkpjcekinaaGreatDoor
open Go.RowKit
open Go.Lib hiding intOf
open Go.Sort Go.Proofs
set_option linter.unusedVariables false
set_option linter.unusedSimpArgs false
set_option maxRecDepth 100000
set_option maxHeartbeats 16000000 in
theorem rchanges_any (a b : ByteArray) (ha : a.size ≤ 1000000) (hb : b.size ≤ 1000000) (G C : List F3) (e : Int) (hr : chgS a b = (G, C, e)) (mG mC : Nat) (hG : G.length = mG) (hC : C.length = mC) (w : World) :
    Calls Tryz.prog 13 #[.string a, .string b] w fun x w' => ∃ A1 c1 g1 A2 c2 g2, x = .returned (.tuple #[.slice A1 mG c1, .slice A2 mC c2, .int .i64 e]) ∧ Fv w' A1 c1 g1 0 G ∧ Fv w' A2 c2 g2 0 C ∧ Below w.heap.size w w' := by
  obtain ⟨X, e1, hp1⟩ : ∃ W e1, parL a = (W, e1) := ⟨_, _, rfl⟩
  obtain ⟨Y, e2, hp2⟩ : ∃ W e1, parL b = (W, e1) := ⟨_, _, rfl⟩
  obtain ⟨nX, hnX⟩ : ∃ m, X.length = m := ⟨_, rfl⟩
  obtain ⟨nY, hnY⟩ : ∃ m, Y.length = m := ⟨_, rfl⟩
  have HNX := Lib.hid hnX
  have HNY := Lib.hid hnY
  have lX : nX ≤ 900 := by have := parL_len a; rw [hp1] at this; simp only at this; omega
  have lY : nY ≤ 900 := by have := parL_len b; rw [hp2] at this; simp only at this; omega
  have HP1 := Lib.hid (fun v => rparse_on_f a ha X e1 hp1 nX hnX v)
  have HP2 := Lib.hid (fun v => rparse_on_f b hb Y e2 hp2 nY hnY v)
  have HC1 := Lib.hid (show (isC a = true ∧ e1 = 0) ∨ (isC a = false ∧ e1 = 1) from by
    cases h : isC a with
    | true => have := isC_card h; rw [hp1] at this; exact .inl ⟨rfl, this.1⟩
    | false => have := isC_not h; rw [hp1] at this; exact .inr ⟨rfl, this⟩)
  have HC2 := Lib.hid (show (isC b = true ∧ e2 = 0) ∨ (isC b = false ∧ e2 = 1) from by
    cases h : isC b with
    | true => have := isC_card h; rw [hp2] at this; exact .inl ⟨rfl, this.1⟩
    | false => have := isC_not h; rw [hp2] at this; exact .inr ⟨rfl, this⟩)
  have HG := Lib.hid hG
  have HC := Lib.hid hC
  rcases HC1.out with ⟨hc1, rfl⟩ | ⟨hc1, rfl⟩
  · rcases HC2.out with ⟨hc2, rfl⟩ | ⟨hc2, rfl⟩
    · have hres : (X.filter (kpF Y), Y.filter (kpF X), (0 : Int)) = (G, C, e) := by rw [← hr]; unfold chgS; rw [hc1, hc2, hp1, hp2]; rfl
      obtain ⟨h1, h2⟩ := Prod.mk.inj hres
      obtain ⟨h3, rfl⟩ := Prod.mk.inj h2
      have HGE := Lib.hid h1
      have HCE := Lib.hid h3
      clear hr hp1 hp2 hnX hnY ha hb hc1 hc2 hres h1 h2 h3 hG hC HC1 HC2
      go_enter Tryz.func13, Tryz.ntmps13
      go_wp2_with (first
        | (go_at_call 16; (with_reducible refine (HP1.out _).mono ?_); rintro _ w1 ⟨AX, cX, gX, rfl, hf, hb⟩; have HF1 := Lib.hid hf; have HB1 := Lib.hid hb; clear hf hb)
        | (go_at_call 16; (with_reducible refine (HP2.out _).mono ?_); rintro _ w2 ⟨AY, cY, gY, rfl, hf, hb⟩; have HF2 := Lib.hid hf; have HF1b := Lib.hid (HF1.out.below hb); have HB2 := Lib.hid (HB1.out.trans (hb.mono HB1.out.size)); clear hf hb)
        | fail)
      have HKX := Lib.hid (fun (v : World) (h : Below w2.heap.size w2 v) => HF1b.out.below h)
      have HKY := Lib.hid (fun (v : World) (h : Below w2.heap.size w2 v) => HF2.out.below h)
      clear HF1 HF1b HF2 HP1 HP2
      obtain ⟨B, hB⟩ : ∃ B, w2.heap.size = B := ⟨_, rfl⟩
      have HBB := Lib.hid hB
      rw [hB] at HKX HKY
      clear hB
      go_loopw [4, 10] (fun l i wr => ∃ q : Nat, q ≤ nX ∧ i = .int .i64 (q : Int) ∧ Fr3 wr B l ((X.take q).filter (kpF Y)).length ((X.take q).filter (kpF Y)) ∧ Below B w2 wr) (fun _ i _ => nX - (intOf i).toNat)
      case atStart => exact ⟨0, Nat.zero_le _, rfl, ⟨rfl, .inl ⟨rfl, rfl⟩⟩, HBB.out ▸ Below.refl _ _⟩
      case round =>
        obtain ⟨q, hq, rfl, hrow, hb⟩ := hrel
        obtain ⟨ML, hML⟩ : ∃ M, (X.take q).filter (kpF Y) = M := ⟨_, rfl⟩
        have hml := List.length_filter_le (kpF Y) (X.take q)
        rw [hML, List.length_take] at hml
        rw [hML] at hrow
        obtain ⟨m, hm⟩ : ∃ m, ML.length = m := ⟨_, rfl⟩
        rw [hm] at hrow hml
        have hm1 : m ≤ 1000 := by omega
        have HM := Lib.hid hm
        have HMM := Lib.hid hML
        have HROW := Lib.hid hrow
        have HB := Lib.hid hb
        have HBs := Lib.hid (show B ≤ wr.heap.size from by have h1 := hb.size; have h2 := HBB.out; omega)
        clear hrow hb hm hML hml
        by_cases hql : q < nX
        · obtain ⟨f, hf⟩ : ∃ f, X[q]? = some f := ⟨X[q]'(by rw [HNX.out]; exact hql), List.getElem?_eq_getElem _⟩
          obtain ⟨rfl, _, c0, c1, c2⟩ := (HKX.out _ HB.out).2 q f hf
          have HGQ := Lib.hid hf
          have HYES := Lib.hid (fun (hp : kpF Y f = true) => filt_yes hf hp)
          have HNO := Lib.hid (fun (hp : kpF Y f = false) => filt_no hf hp)
          have hkp : kpF Y f = !hasF f Y := rfl
          have hqI : (q : Int) < (nX : Int) := by omega
          have hqJ : (0 : Int) ≤ (q : Int) := by omega
          have i1 : IntKind.i64.wrap ((q : Int) + 1) = ((q + 1 : Nat) : Int) := by rw [IntWalk.i64_in _ (by omega)]; omega
          have HHG := Lib.hid (fun (v : World) (h : Below B w2 v) => has_any (HKY.out v h) nY HNY.out (by omega) f)
          obtain ⟨r, hr⟩ : ∃ r, hasF f Y = r := ⟨_, rfl⟩
          rw [hr] at HHG hkp
          have HKP := Lib.hid hkp
          obtain ⟨f1, f2, f3⟩ := f
          simp only [Nat.zero_add] at c0 c1 c2
          simp only at HHG
          clear hf hr hkp
          cases r with
          | true =>
            go_wp2_with (first
              | (go_at_call 17; (with_reducible refine (HHG.out _ HB.out).mono ?_); rintro _ u1 ⟨rfl, hb⟩; have HU1 := Lib.hid (HB.out.trans (hb.mono HBs.out)); have HR1 := Lib.hid (fr3_keep HROW.out (fun j _ hj => hb.block j hj)); clear hb)
              | fail)
            go_wp2_with fail
            go_roundw
            case rel => exact ⟨q + 1, by omega, by go_num, by rw [HNO.out HKP.out, HMM.out, HM.out]; exact HR1.out, HU1.out⟩
            case measure => simp [intOf]; omega
          | false =>
            go_wp2_with (first
              | (go_at_call 17; (with_reducible refine (HHG.out _ HB.out).mono ?_); rintro _ u1 ⟨rfl, hb⟩; have HU1 := Lib.hid (HB.out.trans (hb.mono HBs.out)); have HS1 := Lib.hid (Nat.le_trans HBs.out hb.size); have HR1 := Lib.hid (fr3_keep HROW.out (fun j _ hj => hb.block j hj)); obtain ⟨_, _, d0, d1, d2⟩ := (HKX.out _ HU1.out).2 q _ HGQ.out; simp only [Nat.zero_add] at d0 d1 d2; clear hb; obtain ⟨w6, hw6⟩ : ∃ w6, u1.alloc (.cells #[.int .i64 f1, .int .i64 f2, .string f3] 37) = w6 := ⟨_, rfl⟩; have HB6b := Lib.hid (show Blk w6 u1.heap.size 37 #[.int .i64 f1, .int .i64 f2, .string f3] from hw6 ▸ Blk.new u1 37 _); have HO6 := Lib.hid (show Fr3 w6 B _ m ML from hw6 ▸ World.ownsRow.alloc HR1.out _); have HW6 := Lib.hid (show Below B w2 w6 from hw6 ▸ HU1.out.alloc HS1.out _); have HS6 := Lib.hid (show B ≤ w6.heap.size from by have h1 := HW6.out.size; have h2 := HBB.out; omega))
              | (at_builtin; (try rw [hw6]); go_must (refine fr3_push _ rfl (.tmp 41) (.tmp 46) 27 rfl Tryz.underlying27 info36 B _ m ML rfl HO6.out u1.heap.size (f1, f2, f3) rfl HB6b.out (by omega) HS6.out ?_))
              | fail)
            intro V' w7 hown hgr
            have HO7 := Lib.hid hown
            have HW7 := Lib.hid (HW6.out.grown hgr HS6.out (fun j e => (HO6.out.lt j e).1))
            clear hown hgr hw6
            go_wp2_with fail
            go_roundw
            case rel => exact ⟨q + 1, by omega, by go_num, by rw [HYES.out HKP.out, HMM.out, List.length_append, HM.out]; exact HO7.out, HW7.out⟩
            case measure => simp [intOf]; omega
        · have hqe : q = nX := by omega
          have hqI : ¬ (q : Int) < (nX : Int) := by omega
          have HE1 := Lib.hid (show G = ML from by rw [← HGE.out, ← HMM.out, hqe, ← HNX.out, List.take_length])
          obtain ⟨A1, c1, g1, rfl, hf1⟩ := fr3_fv HROW.out HM.out
          obtain ⟨B2, hB2⟩ : ∃ B, wr.heap.size = B := ⟨_, rfl⟩
          have HBB2 := Lib.hid hB2
          have HV1 := Lib.hid (fun (v : World) (h : Below B2 wr v) => hf1.below (hB2 ▸ h))
          have HKX2 := Lib.hid (fun (v : World) (h : Below B2 wr v) => HKX.out v (HB.out.trans (h.mono (hB2 ▸ HBs.out))))
          have HKY2 := Lib.hid (fun (v : World) (h : Below B2 wr v) => HKY.out v (HB.out.trans (h.mono (hB2 ▸ HBs.out))))
          have HBT := Lib.hid (fun (v : World) (h : Below B2 wr v) => show Below w.heap.size w v from HB2.out.trans ((HB.out.trans (h.mono (hB2 ▸ HBs.out))).mono (by have := HB2.out.size; have := HBB.out; omega)))
          clear hql hqe hf1 hB2
          rename_i ML0 m0
          go_wp2_with fail
          go_loopw [5, 11] (fun l i wr2 => ∃ q : Nat, q ≤ nY ∧ i = .int .i64 (q : Int) ∧ Fr3 wr2 B2 l ((Y.take q).filter (kpF X)).length ((Y.take q).filter (kpF X)) ∧ Below B2 wr wr2) (fun _ i _ => nY - (intOf i).toNat)
          case atStart => exact ⟨0, Nat.zero_le _, rfl, ⟨rfl, .inl ⟨rfl, rfl⟩⟩, HBB2.out ▸ Below.refl _ _⟩
          case round =>
            clear hqI hq
            obtain ⟨q, hq, rfl, hrow, hb⟩ := hrel
            obtain ⟨ML, hML⟩ : ∃ M, (Y.take q).filter (kpF X) = M := ⟨_, rfl⟩
            have hml := List.length_filter_le (kpF X) (Y.take q)
            rw [hML, List.length_take] at hml
            rw [hML] at hrow
            obtain ⟨m, hm⟩ : ∃ m, ML.length = m := ⟨_, rfl⟩
            rw [hm] at hrow hml
            have hm1 : m ≤ 1000 := by omega
            have HM1 := HM
            clear HM HMM HROW HB HBs
            have HM := Lib.hid hm
            have HMM := Lib.hid hML
            have HROW := Lib.hid hrow
            have HB := Lib.hid hb
            have HBs := Lib.hid (show B2 ≤ wr.heap.size from by have h1 := hb.size; have h2 := HBB2.out; omega)
            clear hrow hb hm hML hml
            by_cases hql : q < nY
            · obtain ⟨f, hf⟩ : ∃ f, Y[q]? = some f := ⟨Y[q]'(by rw [HNY.out]; exact hql), List.getElem?_eq_getElem _⟩
              obtain ⟨rfl, _, c0, c1, c2⟩ := (HKY2.out _ HB.out).2 q f hf
              have HGQ := Lib.hid hf
              have HYES := Lib.hid (fun (hp : kpF X f = true) => filt_yes hf hp)
              have HNO := Lib.hid (fun (hp : kpF X f = false) => filt_no hf hp)
              have hkp : kpF X f = !hasF f X := rfl
              have hqI : (q : Int) < (nY : Int) := by omega
              have hqJ : (0 : Int) ≤ (q : Int) := by omega
              have i1 : IntKind.i64.wrap ((q : Int) + 1) = ((q + 1 : Nat) : Int) := by rw [IntWalk.i64_in _ (by omega)]; omega
              have HHG := Lib.hid (fun (v : World) (h : Below B2 _ v) => has_any (HKX2.out v h) nX HNX.out (by omega) f)
              obtain ⟨r, hr⟩ : ∃ r, hasF f X = r := ⟨_, rfl⟩
              rw [hr] at HHG hkp
              have HKP := Lib.hid hkp
              obtain ⟨f1, f2, f3⟩ := f
              simp only [Nat.zero_add] at c0 c1 c2
              simp only at HHG
              clear hf hr hkp
              cases r with
              | true =>
                go_wp2_with (first
                  | (go_at_call 17; (with_reducible refine (HHG.out _ HB.out).mono ?_); rintro _ u1 ⟨rfl, hb⟩; have HU1 := Lib.hid (HB.out.trans (hb.mono HBs.out)); have HR1 := Lib.hid (fr3_keep HROW.out (fun j _ hj => hb.block j hj)); clear hb)
                  | fail)
                go_wp2_with fail
                go_roundw
                case rel => exact ⟨q + 1, by omega, by go_num, by rw [HNO.out HKP.out, HMM.out, HM.out]; exact HR1.out, HU1.out⟩
                case measure => simp [intOf]; omega
              | false =>
                go_wp2_with (first
                  | (go_at_call 17; (with_reducible refine (HHG.out _ HB.out).mono ?_); rintro _ u1 ⟨rfl, hb⟩; have HU1 := Lib.hid (HB.out.trans (hb.mono HBs.out)); have HS1 := Lib.hid (Nat.le_trans HBs.out hb.size); have HR1 := Lib.hid (fr3_keep HROW.out (fun j _ hj => hb.block j hj)); obtain ⟨_, _, d0, d1, d2⟩ := (HKY2.out _ HU1.out).2 q _ HGQ.out; simp only [Nat.zero_add] at d0 d1 d2; clear hb; obtain ⟨w6, hw6⟩ : ∃ w6, u1.alloc (.cells #[.int .i64 f1, .int .i64 f2, .string f3] 37) = w6 := ⟨_, rfl⟩; have HB6b := Lib.hid (show Blk w6 u1.heap.size 37 #[.int .i64 f1, .int .i64 f2, .string f3] from hw6 ▸ Blk.new u1 37 _); have HO6 := Lib.hid (show Fr3 w6 B2 _ m ML from hw6 ▸ World.ownsRow.alloc HR1.out _); have HW6 := Lib.hid (show Below B2 _ w6 from hw6 ▸ HU1.out.alloc HS1.out _); have HS6 := Lib.hid (show B2 ≤ w6.heap.size from by have h1 := HW6.out.size; have h2 := HBB2.out; omega))
                  | (at_builtin; (try rw [hw6]); go_must (refine fr3_push _ rfl (.tmp 61) (.tmp 66) 27 rfl Tryz.underlying27 info36 B2 _ m ML rfl HO6.out u1.heap.size (f1, f2, f3) rfl HB6b.out (by omega) HS6.out ?_))
                  | fail)
                intro V' w7 hown hgr
                have HO7 := Lib.hid hown
                have HW7 := Lib.hid (HW6.out.grown hgr HS6.out (fun j e => (HO6.out.lt j e).1))
                clear hown hgr hw6
                go_wp2_with fail
                go_roundw
                case rel => exact ⟨q + 1, by omega, by go_num, by rw [HYES.out HKP.out, HMM.out, List.length_append, HM.out]; exact HO7.out, HW7.out⟩
                case measure => simp [intOf]; omega
            · have hqe : q = nY := by omega
              have hqI : ¬ (q : Int) < (nY : Int) := by omega
              have HE2 := Lib.hid (show C = ML from by rw [← HCE.out, ← HMM.out, hqe, ← HNY.out, List.take_length])
              obtain ⟨A2, c2, g2, rfl, hf2⟩ := fr3_fv HROW.out HM.out
              have HV2 := Lib.hid hf2
              clear hql hqe hf2
              go_wp2
              go_ret3
              have h1 := HG.out
              have h2 := HC.out
              rw [HE1.out, HM1.out] at h1
              rw [HE2.out, HM.out] at h2
              subst h1
              subst h2
              rw [HE1.out, HE2.out]
              first | exact ⟨A1, c1, g1, A2, c2, g2, rfl, HV1.out _ HB.out, HV2.out, HBT.out _ HB.out⟩ | exact ⟨A1, c1, g1, A2, c2, rfl, HV1.out _ HB.out, ⟨g2, HV2.out⟩, HBT.out _ HB.out⟩
    · have hres : (([], [], 1) : List F3 × List F3 × Int) = (G, C, e) := by rw [← hr]; unfold chgS; rw [hc2]; simp
      obtain ⟨rfl, h2⟩ := Prod.mk.inj hres
      obtain ⟨rfl, rfl⟩ := Prod.mk.inj h2
      clear hr hp1 hp2 hnX hnY ha hb hres h2 HC1 HC2 hc2
      go_enter Tryz.func13, Tryz.ntmps13
      go_wp2_with (first
        | (go_at_call 16; (with_reducible refine (HP1.out _).mono ?_); rintro _ w1 ⟨AX, cX, gX, rfl, hf, hb⟩; have HF1 := Lib.hid hf; have HB1 := Lib.hid hb; clear hf hb)
        | (go_at_call 16; (with_reducible refine (HP2.out _).mono ?_); rintro _ w2 ⟨AY, cY, gY, rfl, hf, hb⟩; have HF2 := Lib.hid hf; have HF1b := Lib.hid (HF1.out.below hb); have HB2 := Lib.hid (HB1.out.trans (hb.mono HB1.out.size)); clear hf hb)
        | fail)
      go_ret3
      obtain rfl := hG
      obtain rfl := hC
      exact ⟨none, 0, 0, none, 0, 0, rfl, fv_nil _ _ _ _, fv_nil _ _ _ _, HB2.out⟩
  · have hres : (([], [], 1) : List F3 × List F3 × Int) = (G, C, e) := by rw [← hr]; unfold chgS; rw [hc1]; simp
    obtain ⟨rfl, h2⟩ := Prod.mk.inj hres
    obtain ⟨rfl, rfl⟩ := Prod.mk.inj h2
    clear hr hp1 hp2 hnX hnY ha hb hres h2 HC1 HC2 hc1
    go_enter Tryz.func13, Tryz.ntmps13
    go_wp2_with (first
      | (go_at_call 16; (with_reducible refine (HP1.out _).mono ?_); rintro _ w1 ⟨AX, cX, gX, rfl, hf, hb⟩; have HF1 := Lib.hid hf; have HB1 := Lib.hid hb; clear hf hb)
      | (go_at_call 16; (with_reducible refine (HP2.out _).mono ?_); rintro _ w2 ⟨AY, cY, gY, rfl, hf, hb⟩; have HF2 := Lib.hid hf; have HF1b := Lib.hid (HF1.out.below hb); have HB2 := Lib.hid (HB1.out.trans (hb.mono HB1.out.size)); clear hf hb)
      | fail)
    go_ret3
    obtain rfl := hG
    obtain rfl := hC
    exact ⟨none, 0, 0, none, 0, 0, rfl, fv_nil _ _ _ _, fv_nil _ _ _ _, HB2.out⟩
end Go.Proofs.YtlcchkpjcekinaaGreatDoor
