/- RingTwo: its walk. -/
import Derived.Test.YtglifomkhcikdaaRi
import Derived.Laws.BitsAllLaws
import Derived.Lib.Hide
namespace Go.Proofs.Ytglifomkhcikdaa
open Go.RowKit
set_option linter.unusedVariables false
set_option maxRecDepth 100000
theorem Rng.glt {T e : TypeId} {w : World} {R g : Nat} {most first : Int} {items : List Value} (h : Rng T e w R g most first items) : g < w.heap.size := by
  obtain ⟨_, _, _, _, _, hg⟩ := h; exact hg
theorem Rng.tw {T e : TypeId} {w w' : World} {R g R' g' : Nat} {most first : Int} {items : List Value} (h : Rng T e w R g most first items) (t : Tw w w' R' g') (h1 : R ≠ R') (h2 : R ≠ g') (h3 : g ≠ R') (h4 : g ≠ g') : Rng T e w' R g most first items :=
  h.keep (t.block R h.lt h1 h2) (t.block g h.glt h3 h4)
theorem push_inv {w : World} {R g M k F : Nat} {items : List Value} {xs : List Int} {x : Int} (h : Rng 46 2 w R g M F items) (hi : RInv (vis xs) M k F items) (hM : 1 ≤ M) (hx : xs[k]? = some x) (hk : k ≤ 1000000) :
    Calls Try.prog 9 #[.pointer (some ⟨R, 0, none⟩), .int .i64 x] w fun e w' => ∃ (o : Int) (b : Bool) (F' g' : Nat) (items' : List Value), e = .returned (.tuple #[.int .i64 o, .bool b]) ∧ Rng 46 2 w' R g' M F' items' ∧ RInv (vis xs) M (k + 1) F' items' ∧ (g' = g ∨ w.heap.size ≤ g') ∧ Tw w w' R g := by
  by_cases hkM : k < M
  · obtain ⟨rfl, hN⟩ := hi.room hkM (vis_get hx)
    have hil : items.length = k := by rw [hi.len]; omega
    refine (push_room h (by rw [hil]; omega) (by rw [hil]; exact hk) x).mono ?_
    rintro _ w' ⟨rfl, g', h1, h2, h3⟩
    exact ⟨0, false, 0, g', _, rfl, h1, hN, h2, h3⟩
  · obtain ⟨hF, hl, h0, hN⟩ := hi.full hM (by omega) (vis_get hx)
    have hkl : k < xs.length := (List.getElem?_eq_some_iff.1 hx).1
    obtain ⟨y, hy⟩ : ∃ y, xs[k - M]? = some y := ⟨xs[k - M]'(by omega), List.getElem?_eq_getElem _⟩
    rw [vis_get hy] at h0
    refine (push_full (x := x) (y := y) h hl (by omega) (by omega) hF h0).mono ?_
    rintro _ w' ⟨rfl, h1, h3⟩
    exact ⟨y, true, _, g, _, rfl, h1, hN, .inl rfl, h3⟩
theorem i64_and (a b : Int) (h3 : 0 ≤ b) (h4 : b < 9223372036854775808) : bits .and .i64 a b = (((BitVec.ofInt 64 a).toNat &&& b.toNat : Nat) : Int) := by
  obtain ⟨B, rfl⟩ := Int.eq_ofNat_of_zero_le h3
  have hx : (BitVec.ofInt 64 a).toNat &&& B < 2 ^ 63 := Nat.and_lt_two_pow _ (by omega)
  show IntKind.i64.wrap ((BitVec.ofInt 64 a &&& BitVec.ofInt 64 (B : Int)).toNat : Int) = _
  rw [BitVec.toNat_and, ofInt_u64 B (by omega), IntWalk.i64_in _ (by omega)]
  rfl
theorem i64_low (a : Int) (i : Nat) (hi : i < 63) : bits .and .i64 a (2 ^ i - 1) = a % 2 ^ i := by
  have hp : (2 : Int) ^ i ≤ 2 ^ 62 := by exact_mod_cast Nat.pow_le_pow_right (by omega) (show i ≤ 62 by omega)
  have hq : (0 : Int) < 2 ^ i := by exact_mod_cast Nat.two_pow_pos i
  have e : ((2 : Int) ^ i - 1).toNat = 2 ^ i - 1 := by have : ((2 : Int) ^ i) = ((2 ^ i : Nat) : Int) := by push_cast; rfl
                                                       omega
  rw [i64_and a _ (by omega) (by omega), e, Nat.and_two_pow_sub_one_eq_mod, BitVec.toNat_ofInt]
  have h64 : ((2 : Int) ^ i) ∣ 2 ^ 64 := by exact_mod_cast Int.natCast_dvd_natCast.2 (Nat.pow_dvd_pow 2 (show i ≤ 64 by omega))
  rw [Int.natCast_emod, Int.toNat_of_nonneg (Int.emod_nonneg _ (by decide))]
  rw [show (((2 ^ i : Nat) : Int)) = 2 ^ i by exact_mod_cast rfl]
  exact Int.emod_emod_of_dvd _ h64
theorem i64_31 (a : Int) : bits .and .i64 a 31 = a % 32 := i64_low a 5 (by decide)
set_option maxHeartbeats 4000000 in
theorem two_le (w : World) (a0 a1 : Int) (P Q : Nat) (hP : 1 + a0 % 32 = P) (hQ : 1 + a1 % 32 = Q) (hPQ : ¬ (P : Int) > (Q : Int)) (A : Option Addr) (len cap b off : Nat) (xs : List Int) (h : Ints w A len b off xs) (hcap : len ≤ cap) (hl : len ≤ 80) :
    Calls Try.prog 4 #[.int .i64 a0, .int .i64 a1, .slice A len cap] w fun e w' => e = .returned (.bool true) ∧ Below w.heap.size w w' := by
  have CF := Lib.hid first_any
  have HI := Lib.hid h
  have hci : (len : Int) ≤ (cap : Int) := by omega
  have n0 := i64_31 a0
  have n1 := i64_31 a1
  have hP1 : 1 ≤ P := by omega
  have hQ1 : 1 ≤ Q := by omega
  have hP2 : P ≤ 32 := by omega
  have hQ2 : Q ≤ 32 := by omega
  clear h
  have H0 := Lib.hid (Below.refl w.heap.size w)
  go_enter Try.func4, Try.ntmps4
  go_wp2_with (first
    | (go_at_call 7; refine (CF.out _).mono ?_; rintro _ w1 ⟨rfl, h1⟩; have H0 := Lib.hid (H0.out.trans (h1.mono H0.out.size)); clear h1)
    | (go_at_call 8
       refine (new_any (P : Int) _).mono ?_
       rintro _ w2 ⟨rfl, h1, h2⟩
       rw [show max (P : Int) 1 = P by omega] at h1
       have HR1 := Lib.hid h1
       have HG1 := Lib.hid H0.out.size
       have H2 := Lib.hid (H0.out.trans (h2.mono H0.out.size))
       have HL1 := Lib.hid h1.lt
       generalize w1.heap.size = R1 at *
       clear h1 h2)
    | (go_at_call 8
       refine (new_any (Q : Int) _).mono ?_
       rintro _ w3 ⟨rfl, h1, h2⟩
       rw [show max (Q : Int) 1 = Q by omega] at h1
       have HR2 := Lib.hid h1
       have HR1b := Lib.hid (HR1.out.below h2)
       have HG2 := Lib.hid H2.out.size
       have H3 := Lib.hid (H2.out.trans (h2.mono H2.out.size))
       generalize w2.heap.size = R2 at *
       clear h1 h2)
    | fail)
  go_loopw [9] (fun i wr => ∃ (k F1 g1 F2 g2 : Nat) (it1 it2 : List Value), k ≤ len ∧ i = .int .i64 (k : Int) ∧ Rng 46 2 wr R1 g1 P F1 it1 ∧ RInv (vis xs) P k F1 it1 ∧ Rng 46 2 wr R2 g2 Q F2 it2 ∧ RInv (vis xs) Q k F2 it2 ∧ (R1 ≠ R2 ∧ g1 ≠ R2 ∧ g2 ≠ R1 ∧ g1 ≠ g2 ∧ w.heap.size ≤ g1 ∧ w.heap.size ≤ g2) ∧ Below w.heap.size w wr) (fun i _ => len - (intOf i).toNat)
  case atStart =>
    have h1 := HL1.out
    have h2 := HG1.out
    have h3 := HG2.out
    exact ⟨0, 0, R1, 0, R2, [], [], Nat.zero_le _, rfl, HR1b.out, RInv.start _ _, HR2.out, RInv.start _ _, ⟨by omega, by omega, by omega, by omega, by omega, by omega⟩, H3.out⟩
  case round =>
    obtain ⟨k, F1, g1, F2, g2, it1, it2, hk, rfl, hX, hV1, hY, hV2, hS, hU⟩ := hrel
    have HXR := Lib.hid hX
    have HV1 := Lib.hid hV1
    have HY := Lib.hid hY
    have HV2 := Lib.hid hV2
    have HS := Lib.hid hS
    have HU := Lib.hid hU
    clear hX hV1 hY hV2 hS hU
    by_cases hlt : k < len
    · obtain ⟨x, hx⟩ : ∃ x, xs[k]? = some x := ⟨xs[k]'(by rw [HI.out.hlen]; exact hlt), List.getElem?_eq_getElem _⟩
      obtain ⟨rfl, hbw⟩ := HI.out.addr (by omega)
      have HX := Lib.hid hx
      have cx := (HI.out.below HU.out).cell k x hx
      have hki : (k : Int) < (len : Int) := by omega
      clear hx hbw
      go_wp2_with (first
        | (go_at_call 9
           refine (push_inv HXR.out HV1.out (by omega) HX.out (by omega)).mono ?_
           rintro _ w4 ⟨o1, b1, F1', g1', it1', rfl, h1, h2, h3, h4⟩
           have HX4 := Lib.hid h1
           have HV14 := Lib.hid h2
           have HY4 := Lib.hid (HY.out.tw h4 HS.out.1.symm HS.out.2.1.symm HS.out.2.2.1 HS.out.2.2.2.1.symm)
           have hlR2 := HY.out.lt
           have hlg2 := HY.out.glt
           have HS4 := Lib.hid (show R1 ≠ R2 ∧ g1' ≠ R2 ∧ g2 ≠ R1 ∧ g1' ≠ g2 ∧ w.heap.size ≤ g1' ∧ w.heap.size ≤ g2 by
             have q := HS.out
             have q2 := HU.out.size
             refine ⟨q.1, ?_, q.2.2.1, ?_, ?_, q.2.2.2.2.2⟩ <;> rcases h3 with h3 | h3 <;> omega)
           have H4 := Lib.hid (HU.out.trans (h4.below (by have := HG1.out; omega) HS.out.2.2.2.2.1 HU.out.size))
           have cx4 := (HI.out.below H4.out).cell k x HX.out
           clear h1 h2 h3 h4 hlR2 hlg2 HXR HV1 HY HS)
        | (go_at_call 9
           refine (push_inv HY4.out HV2.out (by omega) HX.out (by omega)).mono ?_
           rintro _ w5 ⟨o2, b2, F2', g2', it2', rfl, h1, h2, h3, h4⟩
           have HY5 := Lib.hid h1
           have HV25 := Lib.hid h2
           have HX5 := Lib.hid (HX4.out.tw h4 HS4.out.1 HS4.out.2.2.1.symm HS4.out.2.1 HS4.out.2.2.2.1)
           have hlR1 := HX4.out.lt
           have hlg1 := HX4.out.glt
           have HS5 := Lib.hid (show R1 ≠ R2 ∧ g1' ≠ R2 ∧ g2' ≠ R1 ∧ g1' ≠ g2' ∧ w.heap.size ≤ g1' ∧ w.heap.size ≤ g2' by
             have q := HS4.out
             have q2 := H4.out.size
             refine ⟨q.1, q.2.1, ?_, ?_, q.2.2.2.2.1, ?_⟩ <;> rcases h3 with h3 | h3 <;> omega)
           have H5 := Lib.hid (H4.out.trans (h4.below (by have := HG1.out; have := HG2.out; have := HL1.out; omega) HS4.out.2.2.2.2.2 H4.out.size))
           clear h1 h2 h3 h4 hlR1 hlg1)
        | fail)
      go_roundw
      case rel => exact ⟨k + 1, F1', g1', F2', g2', it1', it2', by omega, by go_num, HX5.out, HV14.out, HY5.out, HV25.out, HS5.out, H5.out⟩
      case measure => simp [intOf]; omega
    · have hkl : k = len := by omega
      subst hkl
      obtain ⟨n2, hn2⟩ : ∃ n2, min k Q = n2 := ⟨_, rfl⟩
      have HN2 := Lib.hid hn2
      have hn2M : (n2 : Int) ≤ (Q : Int) := by omega
      have hn2k : n2 ≤ 80 := by omega
      clear hn2
      by_cases hnM : k ≤ P
      · have hnM2 : (k : Int) ≤ (P : Int) := by omega
        have HN1 := Lib.hid (show min k P = k by omega)
        have HI1 := Lib.hid (show it1.length = k by rw [HV1.out.len, HN1.out])
        have HI2 := Lib.hid (show it2.length = n2 by rw [HV2.out.len, HN2.out])
        have hle : k ≤ n2 := by have := HN2.out; omega
        have HLE := Lib.hid hle
        have z1 : ¬ ((n2 : Int) - (k : Int) < 0) := by omega
        have z2 : ¬ ((k : Int) > (P : Int)) := by omega
        have z3 : ¬ ((n2 : Int) > (Q : Int)) := by have := HN2.out; omega
        go_wp2_with (first
          | (go_at_call 10
             refine (len_any HY.out).mono ?_
             rintro _ w5 ⟨rfl, h1⟩
             rw [HI2.out]
             have HX5 := Lib.hid (HXR.out.below h1)
             have HY5 := Lib.hid (HY.out.below h1)
             have H5 := Lib.hid (HU.out.trans (h1.mono HU.out.size))
             clear h1 HY HXR)
          | (go_at_call 10
             refine (len_any HX5.out).mono ?_
             rintro _ w6 ⟨rfl, h1⟩
             rw [HI1.out]
             have HX6 := Lib.hid (HX5.out.below h1)
             have HY6 := Lib.hid (HY5.out.below h1)
             have H6 := Lib.hid (H5.out.trans (h1.mono H5.out.size))
             clear h1 HX5 HY5)
          | (go_at_call 10
             refine (len_any HX6.out).mono ?_
             rintro _ w7 ⟨rfl, h1⟩
             rw [HI1.out]
             have HX7 := Lib.hid (HX6.out.below h1)
             have HY7 := Lib.hid (HY6.out.below h1)
             have H7 := Lib.hid (H6.out.trans (h1.mono H6.out.size))
             clear h1 HX6 HY6)
          | (go_at_call 10
             refine (len_any HY7.out).mono ?_
             rintro _ w8 ⟨rfl, h1⟩
             rw [HI2.out]
             have HX8 := Lib.hid (HX7.out.below h1)
             have HY8 := Lib.hid (HY7.out.below h1)
             have H8 := Lib.hid (H7.out.trans (h1.mono H7.out.size))
             clear h1 HX7 HY7)
          | (go_at_call 10
             refine (len_any HX8.out).mono ?_
             rintro _ w9 ⟨rfl, h1⟩
             rw [HI1.out]
             have HX9 := Lib.hid (HX8.out.below h1)
             have HY9 := Lib.hid (HY8.out.below h1)
             have H9 := Lib.hid (H8.out.trans (h1.mono H8.out.size))
             clear h1 HX8 HY8)
          | fail)
        go_loopw [11] (fun i wr4 => ∃ j : Nat, j ≤ k ∧ i = .int .i64 (j : Int) ∧ Rng 46 2 wr4 R1 g1 P F1 it1 ∧ Rng 46 2 wr4 R2 g2 Q F2 it2 ∧ Below w.heap.size w wr4) (fun i _ => k - (intOf i).toNat)
        case atStart => exact ⟨0, Nat.zero_le _, rfl, HX9.out, HY9.out, H9.out⟩
        case round =>
          obtain ⟨j, hj, rfl, hR5, hR6, hU5⟩ := hrel
          have HXa := Lib.hid hR5
          have HYa := Lib.hid hR6
          have HUa := Lib.hid hU5
          clear hR5 hR6 hU5
          by_cases hltj : j < k
          · have hjk : k - k + j < xs.length := by rw [HI.out.hlen]; omega
            obtain ⟨y, hy⟩ : ∃ y, xs[k - k + j]? = some y := ⟨xs[k - k + j]'hjk, List.getElem?_eq_getElem _⟩
            have HF1 := Lib.hid (show F1 < k by have := HV1.out.lt (by have := HN1.out; omega); rwa [HN1.out] at this)
            have HF2 := Lib.hid (show F2 < n2 by have := HV2.out.lt (by have := HN2.out; omega); rwa [HN2.out] at this)
            have HA1 := Lib.hid (show it1[(F1 + j) % k]? = some (.int .i64 y) by
              have h7 := HV1.out.at' j (by rw [HN1.out]; exact hltj)
              rw [HN1.out, vis_get hy] at h7
              exact h7)
            have hn2k : n2 ≤ k := by have := HN2.out; omega
            have HA2 := Lib.hid (show it2[(F2 + (j + (n2 - k))) % n2]? = some (.int .i64 y) by
              have h7 := HV2.out.at' (j + (n2 - k)) (by rw [HN2.out]; omega)
              rw [HN2.out, show k - n2 + (j + (n2 - k)) = k - k + j by omega, vis_get hy] at h7
              exact h7)
            have HJ := Lib.hid (show (j : Int) + ((n2 : Int) - (k : Int)) = ((j + (n2 - k) : Nat) : Int) by omega)
            have hjn : (j : Int) < (k : Int) := by omega
            clear hy hjk
            go_wp2_with (first
              | (go_at_call 10
                 refine (len_any HXa.out).mono ?_
                 rintro _ w5 ⟨rfl, h1⟩
                 rw [HI1.out]
                 have HXb := Lib.hid (HXa.out.below h1)
                 have HYb := Lib.hid (HYa.out.below h1)
                 have HUb := Lib.hid (HUa.out.trans (h1.mono HUa.out.size))
                 clear h1 HXa HYa)
              | (go_at_call 11
                 refine (at_in (y := y) (i := j) (n := k) HXb.out HI1.out (by omega) HF1.out hltj HA1.out).mono ?_
                 rintro _ w6 ⟨rfl, h1⟩
                 have HXc := Lib.hid (HXb.out.below h1)
                 have HYc := Lib.hid (HYb.out.below h1)
                 have HUc := Lib.hid (HUb.out.trans (h1.mono HUb.out.size))
                 clear h1 HXb HYb)
              | (go_at_call 11
                 rw [HJ.out]
                 refine (at_in (y := y) (i := j + (n2 - k)) (n := n2) HYc.out HI2.out (by omega) HF2.out (by omega) HA2.out).mono ?_
                 rintro _ w7 ⟨rfl, h1⟩
                 have HXd := Lib.hid (HXc.out.below h1)
                 have HYd := Lib.hid (HYc.out.below h1)
                 have HUd := Lib.hid (HUc.out.trans (h1.mono HUc.out.size))
                 clear h1)
              | fail)
            go_roundw
            case rel => exact ⟨j + 1, by omega, by go_num, HXd.out, HYd.out, HUd.out⟩
            case measure => simp [intOf]; omega
          · have hjn : k = j := by omega
            have hjn2 : ¬ (j : Int) < (k : Int) := by omega
            go_wp2_with (first
              | (go_at_call 10
                 refine (len_any HXa.out).mono ?_
                 rintro _ w5 ⟨rfl, h1⟩
                 rw [HI1.out]
                 have HUb := Lib.hid (HUa.out.trans (h1.mono HUa.out.size))
                 clear h1)
              | fail)
            go_ret
            exact ⟨rfl, HUb.out⟩
      · have hnM2 : ¬ (k : Int) ≤ (P : Int) := by omega
        have hnM3 : (P : Int) < (k : Int) := by omega
        have HN1 := Lib.hid (show min k P = P by omega)
        have HI1 := Lib.hid (show it1.length = P by rw [HV1.out.len, HN1.out])
        have HI2 := Lib.hid (show it2.length = n2 by rw [HV2.out.len, HN2.out])
        have hle : P ≤ n2 := by have := HN2.out; omega
        have HLE := Lib.hid hle
        have z1 : ¬ ((n2 : Int) - (P : Int) < 0) := by omega
        have z2 : ¬ ((P : Int) > (P : Int)) := by omega
        have z3 : ¬ ((n2 : Int) > (Q : Int)) := by have := HN2.out; omega
        go_wp2_with (first
          | (go_at_call 10
             refine (len_any HY.out).mono ?_
             rintro _ w5 ⟨rfl, h1⟩
             rw [HI2.out]
             have HX5 := Lib.hid (HXR.out.below h1)
             have HY5 := Lib.hid (HY.out.below h1)
             have H5 := Lib.hid (HU.out.trans (h1.mono HU.out.size))
             clear h1 HY HXR)
          | (go_at_call 10
             refine (len_any HX5.out).mono ?_
             rintro _ w6 ⟨rfl, h1⟩
             rw [HI1.out]
             have HX6 := Lib.hid (HX5.out.below h1)
             have HY6 := Lib.hid (HY5.out.below h1)
             have H6 := Lib.hid (H5.out.trans (h1.mono H5.out.size))
             clear h1 HX5 HY5)
          | (go_at_call 10
             refine (len_any HX6.out).mono ?_
             rintro _ w7 ⟨rfl, h1⟩
             rw [HI1.out]
             have HX7 := Lib.hid (HX6.out.below h1)
             have HY7 := Lib.hid (HY6.out.below h1)
             have H7 := Lib.hid (H6.out.trans (h1.mono H6.out.size))
             clear h1 HX6 HY6)
          | (go_at_call 10
             refine (len_any HY7.out).mono ?_
             rintro _ w8 ⟨rfl, h1⟩
             rw [HI2.out]
             have HX8 := Lib.hid (HX7.out.below h1)
             have HY8 := Lib.hid (HY7.out.below h1)
             have H8 := Lib.hid (H7.out.trans (h1.mono H7.out.size))
             clear h1 HX7 HY7)
          | (go_at_call 10
             refine (len_any HX8.out).mono ?_
             rintro _ w9 ⟨rfl, h1⟩
             rw [HI1.out]
             have HX9 := Lib.hid (HX8.out.below h1)
             have HY9 := Lib.hid (HY8.out.below h1)
             have H9 := Lib.hid (H8.out.trans (h1.mono H8.out.size))
             clear h1 HX8 HY8)
          | fail)
        simp only [show decide (Q < n2) = false from decide_eq_false (by omega), Bool.or_false]
        go_loopw [11] (fun i wr4 => ∃ j : Nat, j ≤ P ∧ i = .int .i64 (j : Int) ∧ Rng 46 2 wr4 R1 g1 P F1 it1 ∧ Rng 46 2 wr4 R2 g2 Q F2 it2 ∧ Below w.heap.size w wr4) (fun i _ => P - (intOf i).toNat)
        case atStart => exact ⟨0, Nat.zero_le _, rfl, HX9.out, HY9.out, H9.out⟩
        case round =>
          obtain ⟨j, hj, rfl, hR5, hR6, hU5⟩ := hrel
          have HXa := Lib.hid hR5
          have HYa := Lib.hid hR6
          have HUa := Lib.hid hU5
          clear hR5 hR6 hU5
          by_cases hltj : j < P
          · have hjk : k - P + j < xs.length := by rw [HI.out.hlen]; omega
            obtain ⟨y, hy⟩ : ∃ y, xs[k - P + j]? = some y := ⟨xs[k - P + j]'hjk, List.getElem?_eq_getElem _⟩
            have HF1 := Lib.hid (show F1 < P by have := HV1.out.lt (by have := HN1.out; omega); rwa [HN1.out] at this)
            have HF2 := Lib.hid (show F2 < n2 by have := HV2.out.lt (by have := HN2.out; omega); rwa [HN2.out] at this)
            have HA1 := Lib.hid (show it1[(F1 + j) % P]? = some (.int .i64 y) by
              have h7 := HV1.out.at' j (by rw [HN1.out]; exact hltj)
              rw [HN1.out, vis_get hy] at h7
              exact h7)
            have hn2k : n2 ≤ k := by have := HN2.out; omega
            have HA2 := Lib.hid (show it2[(F2 + (j + (n2 - P))) % n2]? = some (.int .i64 y) by
              have h7 := HV2.out.at' (j + (n2 - P)) (by rw [HN2.out]; omega)
              rw [HN2.out, show k - n2 + (j + (n2 - P)) = k - P + j by omega, vis_get hy] at h7
              exact h7)
            have HJ := Lib.hid (show (j : Int) + ((n2 : Int) - (P : Int)) = ((j + (n2 - P) : Nat) : Int) by omega)
            have hjn : (j : Int) < (P : Int) := by omega
            clear hy hjk
            go_wp2_with (first
              | (go_at_call 10
                 refine (len_any HXa.out).mono ?_
                 rintro _ w5 ⟨rfl, h1⟩
                 rw [HI1.out]
                 have HXb := Lib.hid (HXa.out.below h1)
                 have HYb := Lib.hid (HYa.out.below h1)
                 have HUb := Lib.hid (HUa.out.trans (h1.mono HUa.out.size))
                 clear h1 HXa HYa)
              | (go_at_call 11
                 refine (at_in (y := y) (i := j) (n := P) HXb.out HI1.out (by omega) HF1.out hltj HA1.out).mono ?_
                 rintro _ w6 ⟨rfl, h1⟩
                 have HXc := Lib.hid (HXb.out.below h1)
                 have HYc := Lib.hid (HYb.out.below h1)
                 have HUc := Lib.hid (HUb.out.trans (h1.mono HUb.out.size))
                 clear h1 HXb HYb)
              | (go_at_call 11
                 rw [HJ.out]
                 refine (at_in (y := y) (i := j + (n2 - P)) (n := n2) HYc.out HI2.out (by omega) HF2.out (by omega) HA2.out).mono ?_
                 rintro _ w7 ⟨rfl, h1⟩
                 have HXd := Lib.hid (HXc.out.below h1)
                 have HYd := Lib.hid (HYc.out.below h1)
                 have HUd := Lib.hid (HUc.out.trans (h1.mono HUc.out.size))
                 clear h1)
              | fail)
            go_roundw
            case rel => exact ⟨j + 1, by omega, by go_num, HXd.out, HYd.out, HUd.out⟩
            case measure => simp [intOf]; omega
          · have hjn : P = j := by omega
            have hjn2 : ¬ (j : Int) < (P : Int) := by omega
            go_wp2_with (first
              | (go_at_call 10
                 refine (len_any HXa.out).mono ?_
                 rintro _ w5 ⟨rfl, h1⟩
                 rw [HI1.out]
                 have HUb := Lib.hid (HUa.out.trans (h1.mono HUa.out.size))
                 clear h1)
              | fail)
            go_ret
            exact ⟨rfl, HUb.out⟩
set_option maxHeartbeats 4000000 in
theorem two_gt (w : World) (a0 a1 : Int) (P Q : Nat) (hP : 1 + a0 % 32 = P) (hQ : 1 + a1 % 32 = Q) (hPQ : (P : Int) > (Q : Int)) (A : Option Addr) (len cap b off : Nat) (xs : List Int) (h : Ints w A len b off xs) (hcap : len ≤ cap) (hl : len ≤ 80) :
    Calls Try.prog 4 #[.int .i64 a0, .int .i64 a1, .slice A len cap] w fun e w' => e = .returned (.bool true) ∧ Below w.heap.size w w' := by
  have CF := Lib.hid first_any
  have HI := Lib.hid h
  have hci : (len : Int) ≤ (cap : Int) := by omega
  have n0 := i64_31 a0
  have n1 := i64_31 a1
  have hP1 : 1 ≤ P := by omega
  have hQ1 : 1 ≤ Q := by omega
  have hP2 : P ≤ 32 := by omega
  have hQ2 : Q ≤ 32 := by omega
  clear h
  have H0 := Lib.hid (Below.refl w.heap.size w)
  go_enter Try.func4, Try.ntmps4
  go_wp2_with (first
    | (go_at_call 7; refine (CF.out _).mono ?_; rintro _ w1 ⟨rfl, h1⟩; have H0 := Lib.hid (H0.out.trans (h1.mono H0.out.size)); clear h1)
    | (go_at_call 8
       refine (new_any (Q : Int) _).mono ?_
       rintro _ w2 ⟨rfl, h1, h2⟩
       rw [show max (Q : Int) 1 = Q by omega] at h1
       have HR1 := Lib.hid h1
       have HG1 := Lib.hid H0.out.size
       have H2 := Lib.hid (H0.out.trans (h2.mono H0.out.size))
       have HL1 := Lib.hid h1.lt
       generalize w1.heap.size = R1 at *
       clear h1 h2)
    | (go_at_call 8
       refine (new_any (P : Int) _).mono ?_
       rintro _ w3 ⟨rfl, h1, h2⟩
       rw [show max (P : Int) 1 = P by omega] at h1
       have HR2 := Lib.hid h1
       have HR1b := Lib.hid (HR1.out.below h2)
       have HG2 := Lib.hid H2.out.size
       have H3 := Lib.hid (H2.out.trans (h2.mono H2.out.size))
       generalize w2.heap.size = R2 at *
       clear h1 h2)
    | fail)
  go_loopw [9] (fun i wr => ∃ (k F1 g1 F2 g2 : Nat) (it1 it2 : List Value), k ≤ len ∧ i = .int .i64 (k : Int) ∧ Rng 46 2 wr R1 g1 Q F1 it1 ∧ RInv (vis xs) Q k F1 it1 ∧ Rng 46 2 wr R2 g2 P F2 it2 ∧ RInv (vis xs) P k F2 it2 ∧ (R1 ≠ R2 ∧ g1 ≠ R2 ∧ g2 ≠ R1 ∧ g1 ≠ g2 ∧ w.heap.size ≤ g1 ∧ w.heap.size ≤ g2) ∧ Below w.heap.size w wr) (fun i _ => len - (intOf i).toNat)
  case atStart =>
    have h1 := HL1.out
    have h2 := HG1.out
    have h3 := HG2.out
    exact ⟨0, 0, R1, 0, R2, [], [], Nat.zero_le _, rfl, HR1b.out, RInv.start _ _, HR2.out, RInv.start _ _, ⟨by omega, by omega, by omega, by omega, by omega, by omega⟩, H3.out⟩
  case round =>
    obtain ⟨k, F1, g1, F2, g2, it1, it2, hk, rfl, hX, hV1, hY, hV2, hS, hU⟩ := hrel
    have HXR := Lib.hid hX
    have HV1 := Lib.hid hV1
    have HY := Lib.hid hY
    have HV2 := Lib.hid hV2
    have HS := Lib.hid hS
    have HU := Lib.hid hU
    clear hX hV1 hY hV2 hS hU
    by_cases hlt : k < len
    · obtain ⟨x, hx⟩ : ∃ x, xs[k]? = some x := ⟨xs[k]'(by rw [HI.out.hlen]; exact hlt), List.getElem?_eq_getElem _⟩
      obtain ⟨rfl, hbw⟩ := HI.out.addr (by omega)
      have HX := Lib.hid hx
      have cx := (HI.out.below HU.out).cell k x hx
      have hki : (k : Int) < (len : Int) := by omega
      clear hx hbw
      go_wp2_with (first
        | (go_at_call 9
           refine (push_inv HXR.out HV1.out (by omega) HX.out (by omega)).mono ?_
           rintro _ w4 ⟨o1, b1, F1', g1', it1', rfl, h1, h2, h3, h4⟩
           have HX4 := Lib.hid h1
           have HV14 := Lib.hid h2
           have HY4 := Lib.hid (HY.out.tw h4 HS.out.1.symm HS.out.2.1.symm HS.out.2.2.1 HS.out.2.2.2.1.symm)
           have hlR2 := HY.out.lt
           have hlg2 := HY.out.glt
           have HS4 := Lib.hid (show R1 ≠ R2 ∧ g1' ≠ R2 ∧ g2 ≠ R1 ∧ g1' ≠ g2 ∧ w.heap.size ≤ g1' ∧ w.heap.size ≤ g2 by
             have q := HS.out
             have q2 := HU.out.size
             refine ⟨q.1, ?_, q.2.2.1, ?_, ?_, q.2.2.2.2.2⟩ <;> rcases h3 with h3 | h3 <;> omega)
           have H4 := Lib.hid (HU.out.trans (h4.below (by have := HG1.out; omega) HS.out.2.2.2.2.1 HU.out.size))
           have cx4 := (HI.out.below H4.out).cell k x HX.out
           clear h1 h2 h3 h4 hlR2 hlg2 HXR HV1 HY HS)
        | (go_at_call 9
           refine (push_inv HY4.out HV2.out (by omega) HX.out (by omega)).mono ?_
           rintro _ w5 ⟨o2, b2, F2', g2', it2', rfl, h1, h2, h3, h4⟩
           have HY5 := Lib.hid h1
           have HV25 := Lib.hid h2
           have HX5 := Lib.hid (HX4.out.tw h4 HS4.out.1 HS4.out.2.2.1.symm HS4.out.2.1 HS4.out.2.2.2.1)
           have hlR1 := HX4.out.lt
           have hlg1 := HX4.out.glt
           have HS5 := Lib.hid (show R1 ≠ R2 ∧ g1' ≠ R2 ∧ g2' ≠ R1 ∧ g1' ≠ g2' ∧ w.heap.size ≤ g1' ∧ w.heap.size ≤ g2' by
             have q := HS4.out
             have q2 := H4.out.size
             refine ⟨q.1, q.2.1, ?_, ?_, q.2.2.2.2.1, ?_⟩ <;> rcases h3 with h3 | h3 <;> omega)
           have H5 := Lib.hid (H4.out.trans (h4.below (by have := HG1.out; have := HG2.out; have := HL1.out; omega) HS4.out.2.2.2.2.2 H4.out.size))
           clear h1 h2 h3 h4 hlR1 hlg1)
        | fail)
      go_roundw
      case rel => exact ⟨k + 1, F1', g1', F2', g2', it1', it2', by omega, by go_num, HX5.out, HV14.out, HY5.out, HV25.out, HS5.out, H5.out⟩
      case measure => simp [intOf]; omega
    · have hkl : k = len := by omega
      subst hkl
      obtain ⟨n2, hn2⟩ : ∃ n2, min k P = n2 := ⟨_, rfl⟩
      have HN2 := Lib.hid hn2
      have hn2M : (n2 : Int) ≤ (P : Int) := by omega
      have hn2k : n2 ≤ 80 := by omega
      clear hn2
      by_cases hnM : k ≤ Q
      · have hnM2 : (k : Int) ≤ (Q : Int) := by omega
        have HN1 := Lib.hid (show min k Q = k by omega)
        have HI1 := Lib.hid (show it1.length = k by rw [HV1.out.len, HN1.out])
        have HI2 := Lib.hid (show it2.length = n2 by rw [HV2.out.len, HN2.out])
        have hle : k ≤ n2 := by have := HN2.out; omega
        have HLE := Lib.hid hle
        have z1 : ¬ ((n2 : Int) - (k : Int) < 0) := by omega
        have z2 : ¬ ((k : Int) > (Q : Int)) := by omega
        have z3 : ¬ ((n2 : Int) > (P : Int)) := by have := HN2.out; omega
        go_wp2_with (first
          | (go_at_call 10
             refine (len_any HY.out).mono ?_
             rintro _ w5 ⟨rfl, h1⟩
             rw [HI2.out]
             have HX5 := Lib.hid (HXR.out.below h1)
             have HY5 := Lib.hid (HY.out.below h1)
             have H5 := Lib.hid (HU.out.trans (h1.mono HU.out.size))
             clear h1 HY HXR)
          | (go_at_call 10
             refine (len_any HX5.out).mono ?_
             rintro _ w6 ⟨rfl, h1⟩
             rw [HI1.out]
             have HX6 := Lib.hid (HX5.out.below h1)
             have HY6 := Lib.hid (HY5.out.below h1)
             have H6 := Lib.hid (H5.out.trans (h1.mono H5.out.size))
             clear h1 HX5 HY5)
          | (go_at_call 10
             refine (len_any HX6.out).mono ?_
             rintro _ w7 ⟨rfl, h1⟩
             rw [HI1.out]
             have HX7 := Lib.hid (HX6.out.below h1)
             have HY7 := Lib.hid (HY6.out.below h1)
             have H7 := Lib.hid (H6.out.trans (h1.mono H6.out.size))
             clear h1 HX6 HY6)
          | (go_at_call 10
             refine (len_any HY7.out).mono ?_
             rintro _ w8 ⟨rfl, h1⟩
             rw [HI2.out]
             have HX8 := Lib.hid (HX7.out.below h1)
             have HY8 := Lib.hid (HY7.out.below h1)
             have H8 := Lib.hid (H7.out.trans (h1.mono H7.out.size))
             clear h1 HX7 HY7)
          | (go_at_call 10
             refine (len_any HX8.out).mono ?_
             rintro _ w9 ⟨rfl, h1⟩
             rw [HI1.out]
             have HX9 := Lib.hid (HX8.out.below h1)
             have HY9 := Lib.hid (HY8.out.below h1)
             have H9 := Lib.hid (H8.out.trans (h1.mono H8.out.size))
             clear h1 HX8 HY8)
          | fail)
        go_loopw [11] (fun i wr4 => ∃ j : Nat, j ≤ k ∧ i = .int .i64 (j : Int) ∧ Rng 46 2 wr4 R1 g1 Q F1 it1 ∧ Rng 46 2 wr4 R2 g2 P F2 it2 ∧ Below w.heap.size w wr4) (fun i _ => k - (intOf i).toNat)
        case atStart => exact ⟨0, Nat.zero_le _, rfl, HX9.out, HY9.out, H9.out⟩
        case round =>
          obtain ⟨j, hj, rfl, hR5, hR6, hU5⟩ := hrel
          have HXa := Lib.hid hR5
          have HYa := Lib.hid hR6
          have HUa := Lib.hid hU5
          clear hR5 hR6 hU5
          by_cases hltj : j < k
          · have hjk : k - k + j < xs.length := by rw [HI.out.hlen]; omega
            obtain ⟨y, hy⟩ : ∃ y, xs[k - k + j]? = some y := ⟨xs[k - k + j]'hjk, List.getElem?_eq_getElem _⟩
            have HF1 := Lib.hid (show F1 < k by have := HV1.out.lt (by have := HN1.out; omega); rwa [HN1.out] at this)
            have HF2 := Lib.hid (show F2 < n2 by have := HV2.out.lt (by have := HN2.out; omega); rwa [HN2.out] at this)
            have HA1 := Lib.hid (show it1[(F1 + j) % k]? = some (.int .i64 y) by
              have h7 := HV1.out.at' j (by rw [HN1.out]; exact hltj)
              rw [HN1.out, vis_get hy] at h7
              exact h7)
            have hn2k : n2 ≤ k := by have := HN2.out; omega
            have HA2 := Lib.hid (show it2[(F2 + (j + (n2 - k))) % n2]? = some (.int .i64 y) by
              have h7 := HV2.out.at' (j + (n2 - k)) (by rw [HN2.out]; omega)
              rw [HN2.out, show k - n2 + (j + (n2 - k)) = k - k + j by omega, vis_get hy] at h7
              exact h7)
            have HJ := Lib.hid (show (j : Int) + ((n2 : Int) - (k : Int)) = ((j + (n2 - k) : Nat) : Int) by omega)
            have hjn : (j : Int) < (k : Int) := by omega
            clear hy hjk
            go_wp2_with (first
              | (go_at_call 10
                 refine (len_any HXa.out).mono ?_
                 rintro _ w5 ⟨rfl, h1⟩
                 rw [HI1.out]
                 have HXb := Lib.hid (HXa.out.below h1)
                 have HYb := Lib.hid (HYa.out.below h1)
                 have HUb := Lib.hid (HUa.out.trans (h1.mono HUa.out.size))
                 clear h1 HXa HYa)
              | (go_at_call 11
                 refine (at_in (y := y) (i := j) (n := k) HXb.out HI1.out (by omega) HF1.out hltj HA1.out).mono ?_
                 rintro _ w6 ⟨rfl, h1⟩
                 have HXc := Lib.hid (HXb.out.below h1)
                 have HYc := Lib.hid (HYb.out.below h1)
                 have HUc := Lib.hid (HUb.out.trans (h1.mono HUb.out.size))
                 clear h1 HXb HYb)
              | (go_at_call 11
                 rw [HJ.out]
                 refine (at_in (y := y) (i := j + (n2 - k)) (n := n2) HYc.out HI2.out (by omega) HF2.out (by omega) HA2.out).mono ?_
                 rintro _ w7 ⟨rfl, h1⟩
                 have HXd := Lib.hid (HXc.out.below h1)
                 have HYd := Lib.hid (HYc.out.below h1)
                 have HUd := Lib.hid (HUc.out.trans (h1.mono HUc.out.size))
                 clear h1)
              | fail)
            go_roundw
            case rel => exact ⟨j + 1, by omega, by go_num, HXd.out, HYd.out, HUd.out⟩
            case measure => simp [intOf]; omega
          · have hjn : k = j := by omega
            have hjn2 : ¬ (j : Int) < (k : Int) := by omega
            go_wp2_with (first
              | (go_at_call 10
                 refine (len_any HXa.out).mono ?_
                 rintro _ w5 ⟨rfl, h1⟩
                 rw [HI1.out]
                 have HUb := Lib.hid (HUa.out.trans (h1.mono HUa.out.size))
                 clear h1)
              | fail)
            go_ret
            exact ⟨rfl, HUb.out⟩
      · have hnM2 : ¬ (k : Int) ≤ (Q : Int) := by omega
        have hnM3 : (Q : Int) < (k : Int) := by omega
        have HN1 := Lib.hid (show min k Q = Q by omega)
        have HI1 := Lib.hid (show it1.length = Q by rw [HV1.out.len, HN1.out])
        have HI2 := Lib.hid (show it2.length = n2 by rw [HV2.out.len, HN2.out])
        have hle : Q ≤ n2 := by have := HN2.out; omega
        have HLE := Lib.hid hle
        have z1 : ¬ ((n2 : Int) - (Q : Int) < 0) := by omega
        have z2 : ¬ ((Q : Int) > (Q : Int)) := by omega
        have z3 : ¬ ((n2 : Int) > (P : Int)) := by have := HN2.out; omega
        go_wp2_with (first
          | (go_at_call 10
             refine (len_any HY.out).mono ?_
             rintro _ w5 ⟨rfl, h1⟩
             rw [HI2.out]
             have HX5 := Lib.hid (HXR.out.below h1)
             have HY5 := Lib.hid (HY.out.below h1)
             have H5 := Lib.hid (HU.out.trans (h1.mono HU.out.size))
             clear h1 HY HXR)
          | (go_at_call 10
             refine (len_any HX5.out).mono ?_
             rintro _ w6 ⟨rfl, h1⟩
             rw [HI1.out]
             have HX6 := Lib.hid (HX5.out.below h1)
             have HY6 := Lib.hid (HY5.out.below h1)
             have H6 := Lib.hid (H5.out.trans (h1.mono H5.out.size))
             clear h1 HX5 HY5)
          | (go_at_call 10
             refine (len_any HX6.out).mono ?_
             rintro _ w7 ⟨rfl, h1⟩
             rw [HI1.out]
             have HX7 := Lib.hid (HX6.out.below h1)
             have HY7 := Lib.hid (HY6.out.below h1)
             have H7 := Lib.hid (H6.out.trans (h1.mono H6.out.size))
             clear h1 HX6 HY6)
          | (go_at_call 10
             refine (len_any HY7.out).mono ?_
             rintro _ w8 ⟨rfl, h1⟩
             rw [HI2.out]
             have HX8 := Lib.hid (HX7.out.below h1)
             have HY8 := Lib.hid (HY7.out.below h1)
             have H8 := Lib.hid (H7.out.trans (h1.mono H7.out.size))
             clear h1 HX7 HY7)
          | (go_at_call 10
             refine (len_any HX8.out).mono ?_
             rintro _ w9 ⟨rfl, h1⟩
             rw [HI1.out]
             have HX9 := Lib.hid (HX8.out.below h1)
             have HY9 := Lib.hid (HY8.out.below h1)
             have H9 := Lib.hid (H8.out.trans (h1.mono H8.out.size))
             clear h1 HX8 HY8)
          | fail)
        simp only [show decide (P < n2) = false from decide_eq_false (by omega), Bool.or_false]
        go_loopw [11] (fun i wr4 => ∃ j : Nat, j ≤ Q ∧ i = .int .i64 (j : Int) ∧ Rng 46 2 wr4 R1 g1 Q F1 it1 ∧ Rng 46 2 wr4 R2 g2 P F2 it2 ∧ Below w.heap.size w wr4) (fun i _ => Q - (intOf i).toNat)
        case atStart => exact ⟨0, Nat.zero_le _, rfl, HX9.out, HY9.out, H9.out⟩
        case round =>
          obtain ⟨j, hj, rfl, hR5, hR6, hU5⟩ := hrel
          have HXa := Lib.hid hR5
          have HYa := Lib.hid hR6
          have HUa := Lib.hid hU5
          clear hR5 hR6 hU5
          by_cases hltj : j < Q
          · have hjk : k - Q + j < xs.length := by rw [HI.out.hlen]; omega
            obtain ⟨y, hy⟩ : ∃ y, xs[k - Q + j]? = some y := ⟨xs[k - Q + j]'hjk, List.getElem?_eq_getElem _⟩
            have HF1 := Lib.hid (show F1 < Q by have := HV1.out.lt (by have := HN1.out; omega); rwa [HN1.out] at this)
            have HF2 := Lib.hid (show F2 < n2 by have := HV2.out.lt (by have := HN2.out; omega); rwa [HN2.out] at this)
            have HA1 := Lib.hid (show it1[(F1 + j) % Q]? = some (.int .i64 y) by
              have h7 := HV1.out.at' j (by rw [HN1.out]; exact hltj)
              rw [HN1.out, vis_get hy] at h7
              exact h7)
            have hn2k : n2 ≤ k := by have := HN2.out; omega
            have HA2 := Lib.hid (show it2[(F2 + (j + (n2 - Q))) % n2]? = some (.int .i64 y) by
              have h7 := HV2.out.at' (j + (n2 - Q)) (by rw [HN2.out]; omega)
              rw [HN2.out, show k - n2 + (j + (n2 - Q)) = k - Q + j by omega, vis_get hy] at h7
              exact h7)
            have HJ := Lib.hid (show (j : Int) + ((n2 : Int) - (Q : Int)) = ((j + (n2 - Q) : Nat) : Int) by omega)
            have hjn : (j : Int) < (Q : Int) := by omega
            clear hy hjk
            go_wp2_with (first
              | (go_at_call 10
                 refine (len_any HXa.out).mono ?_
                 rintro _ w5 ⟨rfl, h1⟩
                 rw [HI1.out]
                 have HXb := Lib.hid (HXa.out.below h1)
                 have HYb := Lib.hid (HYa.out.below h1)
                 have HUb := Lib.hid (HUa.out.trans (h1.mono HUa.out.size))
                 clear h1 HXa HYa)
              | (go_at_call 11
                 refine (at_in (y := y) (i := j) (n := Q) HXb.out HI1.out (by omega) HF1.out hltj HA1.out).mono ?_
                 rintro _ w6 ⟨rfl, h1⟩
                 have HXc := Lib.hid (HXb.out.below h1)
                 have HYc := Lib.hid (HYb.out.below h1)
                 have HUc := Lib.hid (HUb.out.trans (h1.mono HUb.out.size))
                 clear h1 HXb HYb)
              | (go_at_call 11
                 rw [HJ.out]
                 refine (at_in (y := y) (i := j + (n2 - Q)) (n := n2) HYc.out HI2.out (by omega) HF2.out (by omega) HA2.out).mono ?_
                 rintro _ w7 ⟨rfl, h1⟩
                 have HXd := Lib.hid (HXc.out.below h1)
                 have HYd := Lib.hid (HYc.out.below h1)
                 have HUd := Lib.hid (HUc.out.trans (h1.mono HUc.out.size))
                 clear h1)
              | fail)
            go_roundw
            case rel => exact ⟨j + 1, by omega, by go_num, HXd.out, HYd.out, HUd.out⟩
            case measure => simp [intOf]; omega
          · have hjn : Q = j := by omega
            have hjn2 : ¬ (j : Int) < (Q : Int) := by omega
            go_wp2_with (first
              | (go_at_call 10
                 refine (len_any HXa.out).mono ?_
                 rintro _ w5 ⟨rfl, h1⟩
                 rw [HI1.out]
                 have HUb := Lib.hid (HUa.out.trans (h1.mono HUa.out.size))
                 clear h1)
              | fail)
            go_ret
            exact ⟨rfl, HUb.out⟩
theorem two_big (w : World) (a0 a1 : Int) (A : Option Addr) (len cap : Nat) (hl : 80 < len) :
    Calls Try.prog 4 #[.int .i64 a0, .int .i64 a1, .slice A len cap] w fun e w' => e = .returned (.bool true) ∧ Below w.heap.size w w' := by
  have CF := Lib.hid first_any
  have H0 := Lib.hid (Below.refl w.heap.size w)
  go_enter Try.func4, Try.ntmps4
  go_wp2_with (go_at_call 7; refine (CF.out _).mono ?_; rintro _ w1 ⟨rfl, h1⟩; have H0 := Lib.hid (H0.out.trans (h1.mono H0.out.size)); clear h1)
  all_goals (try omega)
  all_goals (try (go_ret; exact ⟨rfl, Hid.out ‹Hid (Below w.heap.size w _)›⟩))
theorem ringTwo_walk (w : World) (a0 : Int) (w0 : (Lit.int .i64 a0).wf = true) (a1 : Int) (w1 : (Lit.int .i64 a1).wf = true) (A2 : Option Addr) (len2 cap2 : Nat) (S2 : Sh.ok w (Sh.slice 1 (Sh.int .i64)) [.slice A2 len2 cap2]) :
    Calls Try.prog 4 #[.int .i64 a0, .int .i64 a1, .slice A2 len2 cap2] w fun e w' => e = .returned (.bool true) ∧ Below w.heap.size w w' := by
  obtain ⟨hc, b, off, xs, h⟩ := ints_open S2
  by_cases hl : 80 < len2
  · exact two_big w a0 a1 A2 len2 cap2 hl
  · by_cases hPQ : 1 + a0 % 32 > 1 + a1 % 32
    · exact two_gt w a0 a1 (1 + a0 % 32).toNat (1 + a1 % 32).toNat (by omega) (by omega) (by omega) A2 len2 cap2 b off xs h hc (by omega)
    · exact two_le w a0 a1 (1 + a0 % 32).toNat (1 + a1 % 32).toNat (by omega) (by omega) (by omega) A2 len2 cap2 b off xs h hc (by omega)
end Go.Proofs.Ytglifomkhcikdaa
