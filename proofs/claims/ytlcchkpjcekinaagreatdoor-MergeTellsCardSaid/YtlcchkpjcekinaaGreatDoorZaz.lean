/- merge: one, many. -/
import Derived.Test.YtlcchkpjcekinaaGreatDoorZay
import Derived.Deep.RegionHeld3
import Derived.Deep.DrawnRows
namespace Go.Proofs.YtlcchkpjcekinaaGreatDoor
open Go.RowKit
open Go.Lib hiding intOf
open Go.Sort Go.Proofs
set_option linter.unusedVariables false
set_option linter.unusedSimpArgs false
set_option maxRecDepth 100000
def pA (W Y : List F3) (f : F3) : Bool := sev f.1 && (hasF f Y || !hasF f W)
def pB (W X : List F3) (f : F3) : Bool := sev f.1 && !hasF f X && !hasF f W
def manyL (W X Y : List F3) : List F3 := X.filter (pA W Y) ++ Y.filter (pB W X)
theorem filt_yes {p : F3 → Bool} {L : List F3} {q : Nat} {f : F3} (h : L[q]? = some f) (hp : p f = true) : (L.take (q + 1)).filter p = (L.take q).filter p ++ [f] := by
  rw [List.take_add_one, h, List.filter_append]
  simp [hp]
theorem filt_no {p : F3 → Bool} {L : List F3} {q : Nat} {f : F3} (h : L[q]? = some f) (hp : p f = false) : (L.take (q + 1)).filter p = (L.take q).filter p := by
  rw [List.take_add_one, h, List.filter_append]
  simp [hp]
set_option maxHeartbeats 16000000 in
theorem many_any {w : World} {AW AX AY : Option Addr} {cW cX cY bW bX bY oW oX oY : Nat} {W X Y : List F3} (hW : Fv w AW cW bW oW W) (hX : Fv w AX cX bX oX X) (hY : Fv w AY cY bY oY Y) (nW nX nY : Nat) (hnW : W.length = nW) (hnX : X.length = nX) (hnY : Y.length = nY) (hsW : nW ≤ 1000) (hsX : nX ≤ 1000) (hsY : nY ≤ 1000) :
    Calls Tryz.prog 20 #[.slice AW nW cW, .slice AX nX cX, .slice AY nY cY] w fun e w' => ∃ V, e = .returned V ∧ Fr3 w' w.heap.size V (manyL W X Y).length (manyL W X Y) ∧ Below w.heap.size w w' := by
  obtain ⟨B, hB⟩ : ∃ B, w.heap.size = B := ⟨_, rfl⟩
  have HBB := Lib.hid hB
  have HWL := Lib.hid hW
  have HX := Lib.hid hX
  have HY := Lib.hid hY
  have HNW := Lib.hid hnW
  have HNX := Lib.hid hnX
  have HNY := Lib.hid hnY
  have hml : manyL W X Y = X.filter (pA W Y) ++ Y.filter (pB W X) := rfl
  obtain ⟨R, hR⟩ : ∃ R, manyL W X Y = R := ⟨_, rfl⟩
  have HR := Lib.hid (hR.symm.trans hml)
  have HLA := Lib.hid (fun q => (show ((X.take q).filter (pA W Y)).length ≤ 1000 from by have h1 := List.length_filter_le (pA W Y) (X.take q); rw [List.length_take] at h1; omega))
  have HLB := Lib.hid (fun q => (show (X.filter (pA W Y) ++ (Y.take q).filter (pB W X)).length ≤ 2000 from by have h1 := List.length_filter_le (pB W X) (Y.take q); have h2 := List.length_filter_le (pA W Y) X; rw [List.length_take] at h1; rw [List.length_append]; omega))
  have hsXI : (nX : Int) ≤ 1000 := by omega
  have hsYI : (nY : Int) ≤ 1000 := by omega
  rw [hR, hB]
  clear hW hX hY hnW hnX hnY hml hR hB
  go_enter Tryz.func20, Tryz.ntmps20
  go_wp2_with fail
  go_loopw [7, 14] (fun l i wr => ∃ q : Nat, q ≤ nX ∧ i = .int .i64 (q : Int) ∧ Fr3 wr B l ((X.take q).filter (pA W Y)).length ((X.take q).filter (pA W Y)) ∧ Below B w wr) (fun _ i _ => nX - (intOf i).toNat)
  case atStart => exact ⟨0, Nat.zero_le _, rfl, ⟨rfl, .inl ⟨rfl, rfl⟩⟩, HBB.out ▸ Below.refl _ _⟩
  case round =>
    obtain ⟨q, hq, rfl, hrow, hb⟩ := hrel
    obtain ⟨ML, hML⟩ : ∃ M, (X.take q).filter (pA W Y) = M := ⟨_, rfl⟩
    have hmm := HLA.out q
    rw [hML] at hrow hmm
    have HMM := Lib.hid hML
    obtain ⟨m, hm⟩ : ∃ m, ML.length = m := ⟨_, rfl⟩
    rw [hm] at hrow hmm
    have HM := Lib.hid hm
    have HROW := Lib.hid hrow
    have HB := Lib.hid hb
    have HBs := Lib.hid (show B ≤ wr.heap.size from by have h1 := hb.size; have h2 := HBB.out; omega)
    clear hrow hb hML hm
    by_cases hql : q < nX
    · obtain ⟨f, hf⟩ : ∃ f, X[q]? = some f := ⟨X[q]'(by rw [HNX.out]; exact hql), List.getElem?_eq_getElem _⟩
      obtain ⟨rfl, _, c0, c1, c2⟩ := (HX.out.below (HBB.out ▸ HB.out)).2 q f hf
      have HYES := Lib.hid (fun (hp : (pA W Y) f = true) => filt_yes (p := (pA W Y)) hf hp)
      have HNO := Lib.hid (fun (hp : (pA W Y) f = false) => filt_no (p := (pA W Y)) hf hp)
      have HC1 := Lib.hid (fun (v : World) (h : Below B w v) => contains_any (HY.out.below (HBB.out ▸ h)) nY HNY.out (by omega) f)
      have HC2c := Lib.hid (fun (v : World) (h : Below B w v) => contains_any (HWL.out.below (HBB.out ▸ h)) nW HNW.out (by omega) f)
      have hpf : (pA W Y) f = (sev f.1 && (hasF f Y || !hasF f W)) := rfl
      obtain ⟨s2, hs2⟩ : ∃ b, hasF f Y = b := ⟨_, rfl⟩
      obtain ⟨s3, hs3⟩ : ∃ b, hasF f W = b := ⟨_, rfl⟩
      obtain ⟨s1, hs1⟩ : ∃ b, sev f.1 = b := ⟨_, rfl⟩
      rw [hs2] at HC1 hpf
      rw [hs3] at HC2c hpf
      rw [hs1] at hpf
      have HPF := Lib.hid hpf
      have HSV := Lib.hid (fun v => (show Calls Tryz.prog 33 #[.int .i64 f.1] v fun e w' => e = .returned (.bool s1) ∧ w' = v from hs1 ▸ several_any f.1 v))
      obtain ⟨f1, f2, f3⟩ := f
      simp only at c0 c1 c2 HC1 HC2c HSV
      have hqI : (q : Int) < (nX : Int) := by omega
      have HCONA := Lib.hid HC1.out
      clear hf hs1 hs2 hs3 hpf HC1
      obtain ⟨n9, hn9⟩ : ∃ n, wr.heap.size = n := ⟨_, rfl⟩
      obtain ⟨W1, hW1⟩ : ∃ W1, wr.alloc (.cells #[.int .i64 0, .int .i64 0, .string { data := #[] }] 37) = W1 := ⟨_, rfl⟩
      have HC1 := Lib.hid (show Below wr.heap.size wr W1 from hW1 ▸ (Below.refl _ wr).alloc (Nat.le_refl _) _)
      have HY1 := Lib.hid (show Blk W1 n9 37 #[.int .i64 0, .int .i64 0, .string .empty] from hn9 ▸ hW1 ▸ Blk.new wr 37 _)
      have y0 := HY1.out.cell 0
      have y1 := HY1.out.cell 1
      have y2 := HY1.out.cell 2
      have g0 := HY1.out.frozen 0
      have g1 := HY1.out.frozen 1
      have g2 := HY1.out.frozen 2
      obtain ⟨w2, hw2⟩ : ∃ w2, ((W1.setCell ⟨n9, 0, none⟩ (.int .i64 f1)).setCell ⟨n9, 1, none⟩ (.int .i64 f2)).setCell ⟨n9, 2, none⟩ (.string f3) = w2 := ⟨_, rfl⟩
      have HB2 := Lib.hid (show Blk w2 n9 37 #[.int .i64 f1, .int .i64 f2, .string f3] from hw2 ▸ (((HY1.out.set_ 0 _).set_ 1 _).set_ 2 _))
      have HC2 := Lib.hid (show Below n9 wr w2 from hw2 ▸ (((((HC1.out.mono (Nat.le_of_eq hn9.symm)).setCell (p := ⟨n9, 0, none⟩) (Nat.le_refl _) _).setCell (p := ⟨n9, 1, none⟩) (Nat.le_refl _) _).setCell (p := ⟨n9, 2, none⟩) (Nat.le_refl _) _)))
      have HW2 := Lib.hid (show Below B w w2 from HB.out.trans (HC2.out.mono (by have := HBs.out; omega)))
      have HS2 := Lib.hid (show B ≤ w2.heap.size from by have h1 := HW2.out.size; have := HBB.out; omega)
      have HR2 := Lib.hid (fr3_keep HROW.out (fun j _ hj => HC2.out.block j (by omega)))
      have z0 : w2.cell? ⟨n9, 0, none⟩ = some (.int .i64 f1) := HB2.out.cell 0
      have z1 : w2.cell? ⟨n9, 1, none⟩ = some (.int .i64 f2) := HB2.out.cell 1
      have z2 : w2.cell? ⟨n9, 2, none⟩ = some (.string f3) := HB2.out.cell 2
      cases s1 with
      | false =>
        go_wp2_with (first
          | (go_at_call 33; (try rw [hw2]); (with_reducible refine (HSV.out _).mono ?_); rintro _ wz ⟨rfl, hw0⟩; replace hw0 := hw0.symm; subst hw0)
          | fail)
        try rw [hw2]
        try clear hw2 y0 y1 y2 g0 g1 g2 hW1 c0 c1 c2
        go_wp2_with fail
        go_roundw
        case rel => exact ⟨q + 1, by omega, by go_num, by rw [HNO.out (by rw [HPF.out]; rfl)]; rw [HMM.out, HM.out]; exact HR2.out, HW2.out⟩
        case measure => simp [intOf]; omega
      | true =>
       cases s2 with
       | true =>
        go_wp2_with (first
          | (go_at_call 33; (try rw [hw2]); (with_reducible refine (HSV.out _).mono ?_); rintro _ wz ⟨rfl, hw0⟩; replace hw0 := hw0.symm; subst hw0)
          | (go_at_call 34; (try rw [hw2]); (with_reducible refine (HCONA.out _ HW2.out).mono ?_); rintro _ w3 ⟨rfl, hb⟩; have HW3 := Lib.hid (HW2.out.trans (hb.mono HS2.out)); have HS3 := Lib.hid (Nat.le_trans HS2.out hb.size); have HR3 := Lib.hid (fr3_keep HR2.out (fun j _ hj => hb.block j hj)); have HB3 := Lib.hid (HB2.out.below hb HB2.out.lt); have x0 := HB3.out.cell 0; have x1 := HB3.out.cell 1; have x2 := HB3.out.cell 2; simp only [List.getElem?_toArray, List.getElem?_cons_zero, List.getElem?_cons_succ] at x0 x1 x2; clear hb HCONA; obtain ⟨w6, hw6⟩ : ∃ w6, w3.alloc (.cells #[.int .i64 f1, .int .i64 f2, .string f3] 37) = w6 := ⟨_, rfl⟩; have HB6 := Lib.hid (show Blk w6 w3.heap.size 37 #[.int .i64 f1, .int .i64 f2, .string f3] from hw6 ▸ Blk.new w3 37 _); have HO6 := Lib.hid (show Fr3 w6 B _ m ML from hw6 ▸ World.ownsRow.alloc HR3.out _); have HW6 := Lib.hid (show Below B w w6 from hw6 ▸ HW3.out.alloc HS3.out _); have HS6 := Lib.hid (show B ≤ w6.heap.size from by have h1 := HW6.out.size; have h2 := HBB.out; omega))
          | (at_builtin; (try rw [hw6]); go_must (refine fr3_push _ rfl (.tmp 32) (.tmp 34) 27 rfl Tryz.underlying27 info36 B _ m ML rfl HO6.out w3.heap.size (f1, f2, f3) rfl HB6.out (by omega) HS6.out ?_))
          | fail)
        intro V' w7 hown hgr
        have HO7 := Lib.hid hown
        have HW7 := Lib.hid (HW6.out.grown hgr HS6.out (fun j e => (HO6.out.lt j e).1))
        clear hown hgr hw6
        go_wp2_with fail
        go_roundw
        case rel => exact ⟨q + 1, by omega, by go_num, by rw [HYES.out (by rw [HPF.out]; rfl), HMM.out, List.length_append, HM.out]; exact HO7.out, HW7.out⟩
        case measure => simp [intOf]; omega
       | false =>
        cases s3 with
        | true =>
        go_wp2_with (first
          | (go_at_call 33; (try rw [hw2]); (with_reducible refine (HSV.out _).mono ?_); rintro _ wz ⟨rfl, hw0⟩; replace hw0 := hw0.symm; subst hw0)
          | (go_at_call 34; (try rw [hw2]); (with_reducible refine (HCONA.out _ HW2.out).mono ?_); rintro _ w3 ⟨rfl, hb⟩; have HW3 := Lib.hid (HW2.out.trans (hb.mono HS2.out)); have HS3 := Lib.hid (Nat.le_trans HS2.out hb.size); have HR3 := Lib.hid (fr3_keep HR2.out (fun j _ hj => hb.block j hj)); have HB3 := Lib.hid (HB2.out.below hb HB2.out.lt); have x0 := HB3.out.cell 0; have x1 := HB3.out.cell 1; have x2 := HB3.out.cell 2; simp only [List.getElem?_toArray, List.getElem?_cons_zero, List.getElem?_cons_succ] at x0 x1 x2; clear hb HCONA)
          | (go_at_call 34; (with_reducible refine (HC2c.out _ HW3.out).mono ?_); rintro _ w4 ⟨rfl, hb⟩; have HW4 := Lib.hid (HW3.out.trans (hb.mono HS3.out)); have HS4 := Lib.hid (Nat.le_trans HS3.out hb.size); have HR4 := Lib.hid (fr3_keep HR3.out (fun j _ hj => hb.block j hj)); have HB4 := Lib.hid (HB3.out.below hb HB3.out.lt); have u0 := HB4.out.cell 0; have u1 := HB4.out.cell 1; have u2 := HB4.out.cell 2; simp only [List.getElem?_toArray, List.getElem?_cons_zero, List.getElem?_cons_succ] at u0 u1 u2; clear hb)
          | fail)
        go_wp2_with fail
        go_roundw
        case rel => exact ⟨q + 1, by omega, by go_num, by rw [HNO.out (by rw [HPF.out]; rfl)]; rw [HMM.out, HM.out]; exact HR4.out, HW4.out⟩
        case measure => simp [intOf]; omega
        | false =>
        go_wp2_with (first
          | (go_at_call 33; (try rw [hw2]); (with_reducible refine (HSV.out _).mono ?_); rintro _ wz ⟨rfl, hw0⟩; replace hw0 := hw0.symm; subst hw0)
          | (go_at_call 34; (try rw [hw2]); (with_reducible refine (HCONA.out _ HW2.out).mono ?_); rintro _ w3 ⟨rfl, hb⟩; have HW3 := Lib.hid (HW2.out.trans (hb.mono HS2.out)); have HS3 := Lib.hid (Nat.le_trans HS2.out hb.size); have HR3 := Lib.hid (fr3_keep HR2.out (fun j _ hj => hb.block j hj)); have HB3 := Lib.hid (HB2.out.below hb HB2.out.lt); have x0 := HB3.out.cell 0; have x1 := HB3.out.cell 1; have x2 := HB3.out.cell 2; simp only [List.getElem?_toArray, List.getElem?_cons_zero, List.getElem?_cons_succ] at x0 x1 x2; clear hb HCONA)
          | (go_at_call 34; (with_reducible refine (HC2c.out _ HW3.out).mono ?_); rintro _ w4 ⟨rfl, hb⟩; have HW4 := Lib.hid (HW3.out.trans (hb.mono HS3.out)); have HS4 := Lib.hid (Nat.le_trans HS3.out hb.size); have HR4 := Lib.hid (fr3_keep HR3.out (fun j _ hj => hb.block j hj)); have HB4 := Lib.hid (HB3.out.below hb HB3.out.lt); have u0 := HB4.out.cell 0; have u1 := HB4.out.cell 1; have u2 := HB4.out.cell 2; simp only [List.getElem?_toArray, List.getElem?_cons_zero, List.getElem?_cons_succ] at u0 u1 u2; clear hb; obtain ⟨w6, hw6⟩ : ∃ w6, w4.alloc (.cells #[.int .i64 f1, .int .i64 f2, .string f3] 37) = w6 := ⟨_, rfl⟩; have HB6 := Lib.hid (show Blk w6 w4.heap.size 37 #[.int .i64 f1, .int .i64 f2, .string f3] from hw6 ▸ Blk.new w4 37 _); have HO6 := Lib.hid (show Fr3 w6 B _ m ML from hw6 ▸ World.ownsRow.alloc HR4.out _); have HW6 := Lib.hid (show Below B w w6 from hw6 ▸ HW4.out.alloc HS4.out _); have HS6 := Lib.hid (show B ≤ w6.heap.size from by have h1 := HW6.out.size; have h2 := HBB.out; omega))
          | (at_builtin; (try rw [hw6]); go_must (refine fr3_push _ rfl (.tmp 32) (.tmp 34) 27 rfl Tryz.underlying27 info36 B _ m ML rfl HO6.out w4.heap.size (f1, f2, f3) rfl HB6.out (by omega) HS6.out ?_))
          | fail)
        intro V' w7 hown hgr
        have HO7 := Lib.hid hown
        have HW7 := Lib.hid (HW6.out.grown hgr HS6.out (fun j e => (HO6.out.lt j e).1))
        clear hown hgr hw6
        go_wp2_with fail
        go_roundw
        case rel => exact ⟨q + 1, by omega, by go_num, by rw [HYES.out (by rw [HPF.out]; rfl), HMM.out, List.length_append, HM.out]; exact HO7.out, HW7.out⟩
        case measure => simp [intOf]; omega
    · have hqe : q = nX := by omega
      have hqI : ¬ (q : Int) < (nX : Int) := by omega
      have hz : ML = X.filter (pA W Y) := by rw [← HMM.out, hqe, ← HNX.out, List.take_length]
      have HZ := Lib.hid hz
      clear hql hz hqe
      go_wp2_with fail
      go_loopw [7, 39] (fun l i wr2 => ∃ q2 : Nat, q2 ≤ nY ∧ i = .int .i64 (q2 : Int) ∧ Fr3 wr2 B l (X.filter (pA W Y) ++ (Y.take q2).filter (pB W X)).length (X.filter (pA W Y) ++ (Y.take q2).filter (pB W X)) ∧ Below B w wr2) (fun _ i _ => nY - (intOf i).toNat)
      case atStart => exact ⟨0, Nat.zero_le _, rfl, by rw [List.take_zero, List.filter_nil, List.append_nil, ← HZ.out, HM.out]; exact HROW.out, HB.out⟩
      case round =>
        clear HMM HM HROW HB HBs
        obtain ⟨q, hq, rfl, hrow, hb⟩ := hrel
        obtain ⟨ML, hML⟩ : ∃ M, X.filter (pA W Y) ++ (Y.take q).filter (pB W X) = M := ⟨_, rfl⟩
        have hmm := HLB.out q
        rw [hML] at hrow hmm
        have HMM := Lib.hid hML
        obtain ⟨m, hm⟩ : ∃ m, ML.length = m := ⟨_, rfl⟩
        rw [hm] at hrow hmm
        have HM := Lib.hid hm
        have HROW := Lib.hid hrow
        have HB := Lib.hid hb
        have HBs := Lib.hid (show B ≤ wr.heap.size from by have h1 := hb.size; have h2 := HBB.out; omega)
        clear hrow hb hML hm
        by_cases hql : q < nY
        · obtain ⟨f, hf⟩ : ∃ f, Y[q]? = some f := ⟨Y[q]'(by rw [HNY.out]; exact hql), List.getElem?_eq_getElem _⟩
          obtain ⟨rfl, _, c0, c1, c2⟩ := (HY.out.below (HBB.out ▸ HB.out)).2 q f hf
          have HYES := Lib.hid (fun (hp : (pB W X) f = true) => filt_yes (p := (pB W X)) hf hp)
          have HNO := Lib.hid (fun (hp : (pB W X) f = false) => filt_no (p := (pB W X)) hf hp)
          have HC1 := Lib.hid (fun (v : World) (h : Below B w v) => contains_any (HX.out.below (HBB.out ▸ h)) nX HNX.out (by omega) f)
          have HC2c := Lib.hid (fun (v : World) (h : Below B w v) => contains_any (HWL.out.below (HBB.out ▸ h)) nW HNW.out (by omega) f)
          have hpf : (pB W X) f = (sev f.1 && !hasF f X && !hasF f W) := rfl
          obtain ⟨s2, hs2⟩ : ∃ b, hasF f X = b := ⟨_, rfl⟩
          obtain ⟨s3, hs3⟩ : ∃ b, hasF f W = b := ⟨_, rfl⟩
          obtain ⟨s1, hs1⟩ : ∃ b, sev f.1 = b := ⟨_, rfl⟩
          rw [hs2] at HC1 hpf
          rw [hs3] at HC2c hpf
          rw [hs1] at hpf
          have HPF := Lib.hid hpf
          have HSV := Lib.hid (fun v => (show Calls Tryz.prog 33 #[.int .i64 f.1] v fun e w' => e = .returned (.bool s1) ∧ w' = v from hs1 ▸ several_any f.1 v))
          obtain ⟨f1, f2, f3⟩ := f
          simp only at c0 c1 c2 HC1 HC2c HSV
          have hqI : (q : Int) < (nY : Int) := by omega
          have HCONA := Lib.hid HC1.out
          clear hf hs1 hs2 hs3 hpf HC1
          obtain ⟨n9, hn9⟩ : ∃ n, wr.heap.size = n := ⟨_, rfl⟩
          obtain ⟨W1, hW1⟩ : ∃ W1, wr.alloc (.cells #[.int .i64 0, .int .i64 0, .string { data := #[] }] 37) = W1 := ⟨_, rfl⟩
          have HC1 := Lib.hid (show Below wr.heap.size wr W1 from hW1 ▸ (Below.refl _ wr).alloc (Nat.le_refl _) _)
          have HY1 := Lib.hid (show Blk W1 n9 37 #[.int .i64 0, .int .i64 0, .string .empty] from hn9 ▸ hW1 ▸ Blk.new wr 37 _)
          have y0 := HY1.out.cell 0
          have y1 := HY1.out.cell 1
          have y2 := HY1.out.cell 2
          have g0 := HY1.out.frozen 0
          have g1 := HY1.out.frozen 1
          have g2 := HY1.out.frozen 2
          obtain ⟨w2, hw2⟩ : ∃ w2, ((W1.setCell ⟨n9, 0, none⟩ (.int .i64 f1)).setCell ⟨n9, 1, none⟩ (.int .i64 f2)).setCell ⟨n9, 2, none⟩ (.string f3) = w2 := ⟨_, rfl⟩
          have HB2 := Lib.hid (show Blk w2 n9 37 #[.int .i64 f1, .int .i64 f2, .string f3] from hw2 ▸ (((HY1.out.set_ 0 _).set_ 1 _).set_ 2 _))
          have HC2 := Lib.hid (show Below n9 wr w2 from hw2 ▸ (((((HC1.out.mono (Nat.le_of_eq hn9.symm)).setCell (p := ⟨n9, 0, none⟩) (Nat.le_refl _) _).setCell (p := ⟨n9, 1, none⟩) (Nat.le_refl _) _).setCell (p := ⟨n9, 2, none⟩) (Nat.le_refl _) _)))
          have HW2 := Lib.hid (show Below B w w2 from HB.out.trans (HC2.out.mono (by have := HBs.out; omega)))
          have HS2 := Lib.hid (show B ≤ w2.heap.size from by have h1 := HW2.out.size; have := HBB.out; omega)
          have HR2 := Lib.hid (fr3_keep HROW.out (fun j _ hj => HC2.out.block j (by omega)))
          have z0 : w2.cell? ⟨n9, 0, none⟩ = some (.int .i64 f1) := HB2.out.cell 0
          have z1 : w2.cell? ⟨n9, 1, none⟩ = some (.int .i64 f2) := HB2.out.cell 1
          have z2 : w2.cell? ⟨n9, 2, none⟩ = some (.string f3) := HB2.out.cell 2
          cases s1 with
          | false =>
            go_wp2_with (first
              | (go_at_call 33; (try rw [hw2]); (with_reducible refine (HSV.out _).mono ?_); rintro _ wz ⟨rfl, hw0⟩; replace hw0 := hw0.symm; subst hw0)
              | fail)
            try rw [hw2]
            try clear hw2 y0 y1 y2 g0 g1 g2 hW1 c0 c1 c2
            go_wp2_with fail
            go_roundw
            case rel => exact ⟨q + 1, by omega, by go_num, by rw [HNO.out (by rw [HPF.out]; rfl)]; rw [HMM.out, HM.out]; exact HR2.out, HW2.out⟩
            case measure => simp [intOf]; omega
          | true =>
           cases s2 with
           | true =>
            go_wp2_with (first
              | (go_at_call 33; (try rw [hw2]); (with_reducible refine (HSV.out _).mono ?_); rintro _ wz ⟨rfl, hw0⟩; replace hw0 := hw0.symm; subst hw0)
              | (go_at_call 34; (try rw [hw2]); (with_reducible refine (HCONA.out _ HW2.out).mono ?_); rintro _ w3 ⟨rfl, hb⟩; have HW3 := Lib.hid (HW2.out.trans (hb.mono HS2.out)); have HS3 := Lib.hid (Nat.le_trans HS2.out hb.size); have HR3 := Lib.hid (fr3_keep HR2.out (fun j _ hj => hb.block j hj)); have HB3 := Lib.hid (HB2.out.below hb HB2.out.lt); have x0 := HB3.out.cell 0; have x1 := HB3.out.cell 1; have x2 := HB3.out.cell 2; simp only [List.getElem?_toArray, List.getElem?_cons_zero, List.getElem?_cons_succ] at x0 x1 x2; clear hb HCONA)
              | fail)
            go_wp2_with fail
            go_roundw
            case rel => exact ⟨q + 1, by omega, by go_num, by rw [HNO.out (by rw [HPF.out]; rfl)]; rw [HMM.out, HM.out]; exact HR3.out, HW3.out⟩
            case measure => simp [intOf]; omega
           | false =>
            cases s3 with
            | true =>
            go_wp2_with (first
              | (go_at_call 33; (try rw [hw2]); (with_reducible refine (HSV.out _).mono ?_); rintro _ wz ⟨rfl, hw0⟩; replace hw0 := hw0.symm; subst hw0)
              | (go_at_call 34; (try rw [hw2]); (with_reducible refine (HCONA.out _ HW2.out).mono ?_); rintro _ w3 ⟨rfl, hb⟩; have HW3 := Lib.hid (HW2.out.trans (hb.mono HS2.out)); have HS3 := Lib.hid (Nat.le_trans HS2.out hb.size); have HR3 := Lib.hid (fr3_keep HR2.out (fun j _ hj => hb.block j hj)); have HB3 := Lib.hid (HB2.out.below hb HB2.out.lt); have x0 := HB3.out.cell 0; have x1 := HB3.out.cell 1; have x2 := HB3.out.cell 2; simp only [List.getElem?_toArray, List.getElem?_cons_zero, List.getElem?_cons_succ] at x0 x1 x2; clear hb HCONA)
              | (go_at_call 34; (with_reducible refine (HC2c.out _ HW3.out).mono ?_); rintro _ w4 ⟨rfl, hb⟩; have HW4 := Lib.hid (HW3.out.trans (hb.mono HS3.out)); have HS4 := Lib.hid (Nat.le_trans HS3.out hb.size); have HR4 := Lib.hid (fr3_keep HR3.out (fun j _ hj => hb.block j hj)); have HB4 := Lib.hid (HB3.out.below hb HB3.out.lt); have u0 := HB4.out.cell 0; have u1 := HB4.out.cell 1; have u2 := HB4.out.cell 2; simp only [List.getElem?_toArray, List.getElem?_cons_zero, List.getElem?_cons_succ] at u0 u1 u2; clear hb)
              | fail)
            go_wp2_with fail
            go_roundw
            case rel => exact ⟨q + 1, by omega, by go_num, by rw [HNO.out (by rw [HPF.out]; rfl)]; rw [HMM.out, HM.out]; exact HR4.out, HW4.out⟩
            case measure => simp [intOf]; omega
            | false =>
            go_wp2_with (first
              | (go_at_call 33; (try rw [hw2]); (with_reducible refine (HSV.out _).mono ?_); rintro _ wz ⟨rfl, hw0⟩; replace hw0 := hw0.symm; subst hw0)
              | (go_at_call 34; (try rw [hw2]); (with_reducible refine (HCONA.out _ HW2.out).mono ?_); rintro _ w3 ⟨rfl, hb⟩; have HW3 := Lib.hid (HW2.out.trans (hb.mono HS2.out)); have HS3 := Lib.hid (Nat.le_trans HS2.out hb.size); have HR3 := Lib.hid (fr3_keep HR2.out (fun j _ hj => hb.block j hj)); have HB3 := Lib.hid (HB2.out.below hb HB2.out.lt); have x0 := HB3.out.cell 0; have x1 := HB3.out.cell 1; have x2 := HB3.out.cell 2; simp only [List.getElem?_toArray, List.getElem?_cons_zero, List.getElem?_cons_succ] at x0 x1 x2; clear hb HCONA)
              | (go_at_call 34; (with_reducible refine (HC2c.out _ HW3.out).mono ?_); rintro _ w4 ⟨rfl, hb⟩; have HW4 := Lib.hid (HW3.out.trans (hb.mono HS3.out)); have HS4 := Lib.hid (Nat.le_trans HS3.out hb.size); have HR4 := Lib.hid (fr3_keep HR3.out (fun j _ hj => hb.block j hj)); have HB4 := Lib.hid (HB3.out.below hb HB3.out.lt); have u0 := HB4.out.cell 0; have u1 := HB4.out.cell 1; have u2 := HB4.out.cell 2; simp only [List.getElem?_toArray, List.getElem?_cons_zero, List.getElem?_cons_succ] at u0 u1 u2; clear hb; obtain ⟨w6, hw6⟩ : ∃ w6, w4.alloc (.cells #[.int .i64 f1, .int .i64 f2, .string f3] 37) = w6 := ⟨_, rfl⟩; have HB6 := Lib.hid (show Blk w6 w4.heap.size 37 #[.int .i64 f1, .int .i64 f2, .string f3] from hw6 ▸ Blk.new w4 37 _); have HO6 := Lib.hid (show Fr3 w6 B _ m ML from hw6 ▸ World.ownsRow.alloc HR4.out _); have HW6 := Lib.hid (show Below B w w6 from hw6 ▸ HW4.out.alloc HS4.out _); have HS6 := Lib.hid (show B ≤ w6.heap.size from by have h1 := HW6.out.size; have h2 := HBB.out; omega))
              | (at_builtin; (try rw [hw6]); go_must (refine fr3_push _ rfl (.tmp 58) (.tmp 60) 27 rfl Tryz.underlying27 info36 B _ m ML rfl HO6.out w4.heap.size (f1, f2, f3) rfl HB6.out (by omega) HS6.out ?_))
              | fail)
            intro V' w7 hown hgr
            have HO7 := Lib.hid hown
            have HW7 := Lib.hid (HW6.out.grown hgr HS6.out (fun j e => (HO6.out.lt j e).1))
            clear hown hgr hw6
            go_wp2_with fail
            go_roundw
            case rel => exact ⟨q + 1, by omega, by go_num, by rw [HYES.out (by rw [HPF.out]; rfl), ← List.append_assoc, HMM.out, List.length_append, HM.out]; exact HO7.out, HW7.out⟩
            case measure => simp [intOf]; omega
        · have hqe : q = nY := by omega
          have hqI : ¬ (q : Int) < (nY : Int) := by omega
          have HE := Lib.hid (show R = ML from by rw [HR.out, ← HMM.out, hqe, ← HNY.out, List.take_length])
          clear hql hqe
          go_wp2
          go_ret
          refine ⟨_, rfl, ?_, HB.out⟩
          rw [HE.out, HM.out]
          exact HROW.out
end Go.Proofs.YtlcchkpjcekinaaGreatDoor
