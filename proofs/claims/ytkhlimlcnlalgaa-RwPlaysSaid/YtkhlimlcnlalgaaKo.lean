/- RwAlone: its walk. -/
import Derived.Test.YtkhlimlcnlalgaaKn
namespace Go.Proofs.Ytkhlimlcnlalgaa
open Go.RowKit Go.Maps
open Go.ChangeShapes Go.ChangeAt
set_option linter.unusedVariables false
set_option linter.unusedSimpArgs false
set_option maxRecDepth 100000
theorem cut_acts (b off n cap q : Nat) (hq : q + 1 ≤ cap) (W : World) : (Instr.sliceAt 22 (.slice (some ⟨b, off, none⟩) n cap) none (some (.int .i64 ((q : Int) + 1))) none).run Try.prog W = .ok (.slice (some ⟨b, off, none⟩) (q + 1) cap) W := by
  rw [run_sliceAt_slice W 22 _ _ _ _ (by exact Try.underlying22), run_slice_h W 22 _ _ _ (by exact Try.underlying22) _ _ (by omega) (by omega)]
  have e : Try.prog.elem 22 = 31 := by kernel_rfl
  have e2 : (sizeOf 31).run Try.prog W = .ok 2 W := by kernel_rfl
  have e3 : ((q : Int) + 1).toNat = q + 1 := by omega
  rw [e, e2, e3]
  simp only [Result.andThen, sliced, Option.map_some, Nat.zero_mul, Nat.sub_zero]
  congr 2
  by_cases h : cap = 0
  · rw [if_pos h]
  · rw [if_neg h]; rfl
set_option maxHeartbeats 8000000 in
theorem alone_in (w : World) (A : Option Addr) (len cap blk off : Nat) (xs : Nat → Int × Int) (hl : len ≤ cap) (hm : cap ≤ maxLen) (hlen : len ≤ 100) (hA : Acts w A len blk off xs) :
    Calls Try.prog 4 #[.slice A len cap] w fun e w' => e = .returned (.bool true) ∧ Below w.heap.size w w' := by
  have HA := Lib.hid hA
  have hl2 : ¬ (len : Int) > 100 := by omega
  unfold maxLen at hm
  clear hA
  go_enter Try.func4, Try.ntmps4
  go_wp2_with fail
  refine (first_any _).mono ?_
  rintro _ w1 ⟨rfl, hb⟩
  have HB1 := Lib.hid hb
  have HA1 := Lib.hid (HA.out.keep hb)
  clear hb
  go_wp2_with fail
  refine (lw_new _).mono ?_
  rintro _ w2 ⟨R, b, rfl, h1⟩
  have H2 := Lib.hid h1
  clear h1
  go_wp2_with fail
  go_loopw [4] (fun i wr => ∃ (k : Nat) (Q H : List Pq), k ≤ len ∧ i = .int .i64 (k : Int) ∧ Lw w1 wr R b k Q H ∧ Em Q H) (fun i _ => len - (intOf i).toNat)
  case atStart => exact ⟨0, [], [], Nat.zero_le _, rfl, H2.out, fun _ => rfl⟩
  case round =>
    obtain ⟨k, Q, H, hk, rfl, hc, hem⟩ := hrel
    have HC := Lib.hid hc
    have HE := Lib.hid hem
    by_cases hlt : k < len
    · obtain ⟨c0, c1, f1⟩ := (HA1.out.keep hc.bel).2 k hlt
      obtain rfl := (HA1.out.1 (by omega)).1
      have HX := Lib.hid (fun w' (h : Below w1.heap.size w1 w') => (HA1.out.keep h).2 k hlt)
      obtain ⟨op, hop⟩ : ∃ op, (xs k).1 = op := ⟨_, rfl⟩
      obtain ⟨x, hx⟩ : ∃ x, (xs k).2 = x := ⟨_, rfl⟩
      rw [hop] at c0
      rw [hx] at c1 f1
      rw [hop, hx] at HX
      have F1 := Lib.hid f1
      have hcut := cut_acts blk off len cap k (by omega)
      clear hop hx hc hem f1
      have hkI : (k : Int) < (len : Int) := by omega
      by_cases o0 : op = 0
      · subst o0
        go_wp2_with fail
        have c0d : wr.drew.cell? ⟨blk, off + k * 2, none⟩ = some (.int .i64 0) := c0
        have c1d : wr.drew.cell? ⟨blk, off + k * 2 + 1, none⟩ = some (.int .i64 x) := c1
        have HCD := Lib.hid (lw_ask (show Lw w1 wr.drew R b k Q H from HC.out.kept ((Below.refl _ _).drew)) (by omega) x F1.out false _ rfl)
        go_region_held3 (fun w' => w'.cell? ⟨blk, off + k * 2, none⟩ = some (.int .i64 0) ∧ w'.cell? ⟨blk, off + k * 2 + 1, none⟩ = some (.int .i64 x)) (first | exact ⟨c0d, c1d⟩ | exact e1) (first
          | (go_at_call 9
             (with_reducible refine (HCD.out).mono ?_)
             rintro _ w3 ⟨rfl, h1⟩
             have e1 := HX.out _ h1.bel
             have e1 := (⟨e1.1, e1.2.1⟩ : _ ∧ _)
             have HD := Lib.hid (show ∃ Q2 H2, Lw w1 w3 R b (k + 1) Q2 H2 ∧ Em Q2 H2 from ⟨_, _, h1, em_ask HE.out x false⟩)
             clear h1))
        all_goals (
          obtain ⟨Q2, H2, h1, h2⟩ := HD.out
          have HC4 := Lib.hid h1
          have HE4 := Lib.hid h2
          clear h1 h2
          go_wp2_with fail
          refine (lw_holdX HC4.out (by omega)).mono ?_
          rintro _ w4 ⟨A4, c4, g4, rfl, h1, h2⟩
          have HN4 := Lib.hid h1
          have HC5 := Lib.hid (HC4.out.kept h2)
          have hle4 := h1.le
          clear h1 h2
          go_wp2_with fail
          refine (lw_queueX HC5.out (by omega)).mono ?_
          rintro _ w5 ⟨A5, c5, g5, rfl, h1, h2⟩
          have HN5 := Lib.hid h1
          have HN4' := Lib.hid (HN4.out.below h2)
          have HC6 := Lib.hid (HC5.out.kept h2)
          have hle5 := h1.le
          clear h1 h2
          have hqlen : (srtK H2).length + (keysOf Q2).length ≤ k + 1 := by rw [srtK_len, keysOf_len]; exact HC6.out.lenb
          have hem5 : (srtK H2).length = 0 → (keysOf Q2).length = 0 := by rw [srtK_len, keysOf_len]; exact fun h => by rw [HE4.out (List.length_eq_zero_iff.1 h)]; rfl
          obtain ⟨hs, hhs⟩ : ∃ hs, srtK H2 = hs := ⟨_, rfl⟩
          obtain ⟨qs, hqs⟩ : ∃ qs, keysOf Q2 = qs := ⟨_, rfl⟩
          have HHS := Lib.hid hhs
          have HQS := Lib.hid hqs
          rw [hhs] at hqlen hem5 hle4 HN4'
          rw [hqs] at hqlen hem5 hle5 HN5
          rw [hhs, hqs]
          obtain ⟨nh, hnh⟩ : ∃ nh, hs.length = nh := ⟨_, rfl⟩
          obtain ⟨nw, hnw⟩ : ∃ nw, qs.length = nw := ⟨_, rfl⟩
          have HNH := Lib.hid hnh
          have HNW := Lib.hid hnw
          rw [hnh] at hqlen hem5 hle4 ⊢
          rw [hnw] at hqlen hem5 hle5 ⊢
          clear hnh hnw
          have HE5 := Lib.hid hem5
          clear hhs hqs hem5
          go_wp2_with fail
          go_loopw [7] (fun i wi => ∃ j : Nat, j ≤ nh ∧ i = .int .i64 (j : Int) ∧ Lw w1 wi R b (k + 1) Q2 H2 ∧ Nl wi A4 c4 g4 hs ∧ Nl wi A5 c5 g5 qs) (fun i _ => nh - (intOf i).toNat)
          case atStart => exact ⟨0, Nat.zero_le _, rfl, HC6.out, HN4'.out, HN5.out⟩
          case round =>
            obtain ⟨j, hj, rfl, h1, h2, h3⟩ := hrel
            have HC7 := Lib.hid h1
            have HN7 := Lib.hid h2
            have HM7 := Lib.hid h3
            clear h1 h2 h3
            by_cases hjl : j < nh
            · obtain ⟨y, hy⟩ : ∃ y, hs[j]? = some y := ⟨hs[j]'(by rw [HNH.out]; exact hjl), List.getElem?_eq_getElem _⟩
              have HY := Lib.hid hy
              have HYM := Lib.hid (show y ∈ srtK H2 from HHS.out.symm ▸ List.mem_of_getElem? hy)
              obtain ⟨rfl, b7, e7⟩ := HN7.out.cell j y hy
              have hjI : (j : Int) < (nh : Int) := by omega
              clear hy
              obtain ⟨fy, v, HV⟩ := (HC7.out.hold HYM.out)
              have HSV := Lib.hid HV.2.1
              have HV23 := Lib.hid HV.2.2.1
              have HV3 := Lib.hid (show v = 3 → nh = 1 from fun e => by rw [← HNH.out, ← HHS.out, srtK_len]; exact HV.2.2.2 e)
              clear HV
              have FY := Lib.hid fy
              clear fy
              go_wp2_with fail
              refine (lw_state HC7.out (by omega) y FY.out v HSV.out).mono ?_
              rintro _ w8 ⟨rfl, h1⟩
              have HC8 := Lib.hid (HC7.out.kept h1)
              have HN8 := Lib.hid (HN7.out.below h1)
              have HM8 := Lib.hid (HM7.out.below h1)
              clear h1 e7
              have HST := Lib.hid (show v = 2 ∨ v = 3 ∧ nh = 1 from HV23.out.imp id (fun e => ⟨e, HV3.out e⟩))
              clear HSV
              obtain ⟨_, b8, e8⟩ := HN8.out.cell j y HY.out
              by_cases hj0 : j = 0
              · have hj1 : (decide ((j : Int) > 0)) = false := by simp; omega
                rcases HST.out with rfl | ⟨rfl, h1⟩
                · clear HST e8
                  go_wp2_with fail
                  go_quiet (fail)
                  have HC9 := Lib.hid (HC8.out.kept (below_drewN (Below.refl _ _) nq))
                  have HN9 := Lib.hid (HN8.out.below (below_drewN (Below.refl _ _) nq))
                  have HM9 := Lib.hid (HM8.out.below (below_drewN (Below.refl _ _) nq))
                  go_wp2_with fail
                  go_roundw
                  case rel => exact ⟨j + 1, by omega, by go_num, HC9.out, HN9.out, HM9.out⟩
                  case measure => simp [intOf]; omega
                · have h2 : ((nh : Int) != 1) = false := by simp [h1]
                  clear HST e8 h1
                  go_wp2_with fail
                  go_quiet (fail)
                  have HC9 := Lib.hid (HC8.out.kept (below_drewN (Below.refl _ _) nq))
                  have HN9 := Lib.hid (HN8.out.below (below_drewN (Below.refl _ _) nq))
                  have HM9 := Lib.hid (HM8.out.below (below_drewN (Below.refl _ _) nq))
                  go_wp2_with fail
                  go_roundw
                  case rel => exact ⟨j + 1, by omega, by go_num, HC9.out, HN9.out, HM9.out⟩
                  case measure => simp [intOf]; omega
              · obtain ⟨q, rfl⟩ : ∃ q, j = q + 1 := ⟨j - 1, by omega⟩
                obtain ⟨z, hz⟩ : ∃ z, hs[q]? = some z := ⟨hs[q]'(by rw [HNH.out]; omega), List.getElem?_eq_getElem _⟩
                obtain ⟨_, b8, e9⟩ := HN8.out.cell q z hz
                have hzy : z < y := by
                  have hr := HC7.out.rise
                  rw [HHS.out] at hr
                  have e1 := (List.getElem?_eq_some_iff.1 hz).2
                  have e2 := (List.getElem?_eq_some_iff.1 HY.out).2
                  rw [← e1, ← e2]
                  exact List.pairwise_iff_getElem.1 hr q (q + 1) _ _ (by omega)
                have hd1 : (decide (z ≥ y)) = false := by simp; omega
                have hd2 : (decide (y ≤ z)) = false := by simp; omega
                have hj1 : (decide (((q + 1 : Nat) : Int) > 0)) = true := decide_eq_true (by omega)
                have hj2 : (decide ((q : Int) + 1 > 0)) = true := decide_eq_true (by omega)
                have hi1 : IntKind.i64.wrap ((q : Int) + 1 - 1) = (q : Int) := by rw [IntWalk.i64_in _ (by omega)]; omega
                have hi3 : (0 : Int) ≤ (q : Int) := by omega
                have hi4 : (q : Int) < (nh : Int) := by omega
                clear hz hzy
                rcases HST.out with rfl | ⟨rfl, h1⟩
                · clear HST
                  go_wp2_with fail
                  go_quiet (fail)
                  have HC9 := Lib.hid (HC8.out.kept (below_drewN (Below.refl _ _) nq))
                  have HN9 := Lib.hid (HN8.out.below (below_drewN (Below.refl _ _) nq))
                  have HM9 := Lib.hid (HM8.out.below (below_drewN (Below.refl _ _) nq))
                  go_wp2_with fail
                  go_roundw
                  case rel => exact ⟨(q + 1) + 1, by omega, by go_num, HC9.out, HN9.out, HM9.out⟩
                  case measure => simp [intOf]; omega
                · omega
            · obtain rfl : nh = j := by omega
              clear hjl
              go_wp2_with fail
              go_loopw [9] (fun i wi => ∃ j : Nat, j ≤ nw ∧ i = .int .i64 (j : Int) ∧ Lw w1 wi R b (k + 1) Q2 H2 ∧ Nl wi A5 c5 g5 qs) (fun i _ => nw - (intOf i).toNat)
              case atStart => exact ⟨0, Nat.zero_le _, rfl, HC7.out, HM7.out⟩
              case round =>
                obtain ⟨j, hj, rfl, h1, h3⟩ := hrel
                have HC8 := Lib.hid h1
                have HM8 := Lib.hid h3
                clear h1 h3
                by_cases hjl : j < nw
                · obtain ⟨y, hy⟩ : ∃ y, qs[j]? = some y := ⟨qs[j]'(by rw [HNW.out]; exact hjl), List.getElem?_eq_getElem _⟩
                  have HYW := Lib.hid (HC8.out.wait (show y ∈ keysOf Q2 from HQS.out.symm ▸ List.mem_of_getElem? hy))
                  obtain ⟨rfl, b7, e7⟩ := HM8.out.cell j y hy
                  have hjI : (j : Int) < (nw : Int) := by omega
                  clear hy
                  go_wp2_with fail
                  refine (lw_state HC8.out (by omega) y HYW.out.1 1 HYW.out.2).mono ?_
                  rintro _ w9 ⟨rfl, h1⟩
                  have HC9 := Lib.hid (HC8.out.kept h1)
                  have HM9 := Lib.hid (HM8.out.below h1)
                  clear h1 e7
                  go_wp2_with fail
                  go_roundw
                  case rel => exact ⟨j + 1, by omega, by go_num, HC9.out, HM9.out⟩
                  case measure => simp [intOf]; omega
                · obtain rfl : nw = j := by omega
                  clear hjl
                  have hw1 : IntKind.i64.wrap ((nh : Int) + (nw : Int)) = (nh : Int) + (nw : Int) := by rw [IntWalk.i64_in _ (by omega)]
                  have hd1 : (decide ((k : Int) + 1 < (nh : Int) + (nw : Int))) = false := decide_eq_false (by omega)
                  by_cases hh0 : nh = 0
                  · have hq0 := HE5.out hh0
                    subst hh0
                    subst hq0
                    go_wp2_with fail
                    go_roundw
                    case rel => exact ⟨k + 1, Q2, H2, by omega, by go_num, HC8.out, HE4.out⟩
                    case measure => simp [intOf]; omega
                  · have hd2 : ((nh : Int) == 0) = false := beq_false_of_ne (by omega)
                    go_wp2_with fail
                    go_roundw
                    case rel => exact ⟨k + 1, Q2, H2, by omega, by go_num, HC8.out, HE4.out⟩
                    case measure => simp [intOf]; omega)
      · have o0' : (op == 0) = false := by simpa using o0
        by_cases o1 : op = 1
        · subst o1
          go_wp2_with fail
          have c0d : wr.drew.cell? ⟨blk, off + k * 2, none⟩ = some (.int .i64 1) := c0
          have c1d : wr.drew.cell? ⟨blk, off + k * 2 + 1, none⟩ = some (.int .i64 x) := c1
          have HCD := Lib.hid (lw_ask (show Lw w1 wr.drew R b k Q H from HC.out.kept ((Below.refl _ _).drew)) (by omega) x F1.out true _ rfl)
          go_region_held3 (fun w' => w'.cell? ⟨blk, off + k * 2, none⟩ = some (.int .i64 1) ∧ w'.cell? ⟨blk, off + k * 2 + 1, none⟩ = some (.int .i64 x)) (first | exact ⟨c0d, c1d⟩ | exact e1) (first
            | (go_at_call 9
               (with_reducible refine (HCD.out).mono ?_)
               rintro _ w3 ⟨rfl, h1⟩
               have e1 := HX.out _ h1.bel
               have e1 := (⟨e1.1, e1.2.1⟩ : _ ∧ _)
               have HD := Lib.hid (show ∃ Q2 H2, Lw w1 w3 R b (k + 1) Q2 H2 ∧ Em Q2 H2 from ⟨_, _, h1, em_ask HE.out x true⟩)
               clear h1))
          all_goals (
            obtain ⟨Q2, H2, h1, h2⟩ := HD.out
            have HC4 := Lib.hid h1
            have HE4 := Lib.hid h2
            clear h1 h2
            go_wp2_with fail
            refine (lw_holdX HC4.out (by omega)).mono ?_
            rintro _ w4 ⟨A4, c4, g4, rfl, h1, h2⟩
            have HN4 := Lib.hid h1
            have HC5 := Lib.hid (HC4.out.kept h2)
            have hle4 := h1.le
            clear h1 h2
            go_wp2_with fail
            refine (lw_queueX HC5.out (by omega)).mono ?_
            rintro _ w5 ⟨A5, c5, g5, rfl, h1, h2⟩
            have HN5 := Lib.hid h1
            have HN4' := Lib.hid (HN4.out.below h2)
            have HC6 := Lib.hid (HC5.out.kept h2)
            have hle5 := h1.le
            clear h1 h2
            have hqlen : (srtK H2).length + (keysOf Q2).length ≤ k + 1 := by rw [srtK_len, keysOf_len]; exact HC6.out.lenb
            have hem5 : (srtK H2).length = 0 → (keysOf Q2).length = 0 := by rw [srtK_len, keysOf_len]; exact fun h => by rw [HE4.out (List.length_eq_zero_iff.1 h)]; rfl
            obtain ⟨hs, hhs⟩ : ∃ hs, srtK H2 = hs := ⟨_, rfl⟩
            obtain ⟨qs, hqs⟩ : ∃ qs, keysOf Q2 = qs := ⟨_, rfl⟩
            have HHS := Lib.hid hhs
            have HQS := Lib.hid hqs
            rw [hhs] at hqlen hem5 hle4 HN4'
            rw [hqs] at hqlen hem5 hle5 HN5
            rw [hhs, hqs]
            obtain ⟨nh, hnh⟩ : ∃ nh, hs.length = nh := ⟨_, rfl⟩
            obtain ⟨nw, hnw⟩ : ∃ nw, qs.length = nw := ⟨_, rfl⟩
            have HNH := Lib.hid hnh
            have HNW := Lib.hid hnw
            rw [hnh] at hqlen hem5 hle4 ⊢
            rw [hnw] at hqlen hem5 hle5 ⊢
            clear hnh hnw
            have HE5 := Lib.hid hem5
            clear hhs hqs hem5
            go_wp2_with fail
            go_loopw [7] (fun i wi => ∃ j : Nat, j ≤ nh ∧ i = .int .i64 (j : Int) ∧ Lw w1 wi R b (k + 1) Q2 H2 ∧ Nl wi A4 c4 g4 hs ∧ Nl wi A5 c5 g5 qs) (fun i _ => nh - (intOf i).toNat)
            case atStart => exact ⟨0, Nat.zero_le _, rfl, HC6.out, HN4'.out, HN5.out⟩
            case round =>
              obtain ⟨j, hj, rfl, h1, h2, h3⟩ := hrel
              have HC7 := Lib.hid h1
              have HN7 := Lib.hid h2
              have HM7 := Lib.hid h3
              clear h1 h2 h3
              by_cases hjl : j < nh
              · obtain ⟨y, hy⟩ : ∃ y, hs[j]? = some y := ⟨hs[j]'(by rw [HNH.out]; exact hjl), List.getElem?_eq_getElem _⟩
                have HY := Lib.hid hy
                have HYM := Lib.hid (show y ∈ srtK H2 from HHS.out.symm ▸ List.mem_of_getElem? hy)
                obtain ⟨rfl, b7, e7⟩ := HN7.out.cell j y hy
                have hjI : (j : Int) < (nh : Int) := by omega
                clear hy
                obtain ⟨fy, v, HV⟩ := (HC7.out.hold HYM.out)
                have HSV := Lib.hid HV.2.1
                have HV23 := Lib.hid HV.2.2.1
                have HV3 := Lib.hid (show v = 3 → nh = 1 from fun e => by rw [← HNH.out, ← HHS.out, srtK_len]; exact HV.2.2.2 e)
                clear HV
                have FY := Lib.hid fy
                clear fy
                go_wp2_with fail
                refine (lw_state HC7.out (by omega) y FY.out v HSV.out).mono ?_
                rintro _ w8 ⟨rfl, h1⟩
                have HC8 := Lib.hid (HC7.out.kept h1)
                have HN8 := Lib.hid (HN7.out.below h1)
                have HM8 := Lib.hid (HM7.out.below h1)
                clear h1 e7
                have HST := Lib.hid (show v = 2 ∨ v = 3 ∧ nh = 1 from HV23.out.imp id (fun e => ⟨e, HV3.out e⟩))
                clear HSV
                obtain ⟨_, b8, e8⟩ := HN8.out.cell j y HY.out
                by_cases hj0 : j = 0
                · have hj1 : (decide ((j : Int) > 0)) = false := by simp; omega
                  rcases HST.out with rfl | ⟨rfl, h1⟩
                  · clear HST e8
                    go_wp2_with fail
                    go_quiet (fail)
                    have HC9 := Lib.hid (HC8.out.kept (below_drewN (Below.refl _ _) nq))
                    have HN9 := Lib.hid (HN8.out.below (below_drewN (Below.refl _ _) nq))
                    have HM9 := Lib.hid (HM8.out.below (below_drewN (Below.refl _ _) nq))
                    go_wp2_with fail
                    go_roundw
                    case rel => exact ⟨j + 1, by omega, by go_num, HC9.out, HN9.out, HM9.out⟩
                    case measure => simp [intOf]; omega
                  · have h2 : ((nh : Int) != 1) = false := by simp [h1]
                    clear HST e8 h1
                    go_wp2_with fail
                    go_quiet (fail)
                    have HC9 := Lib.hid (HC8.out.kept (below_drewN (Below.refl _ _) nq))
                    have HN9 := Lib.hid (HN8.out.below (below_drewN (Below.refl _ _) nq))
                    have HM9 := Lib.hid (HM8.out.below (below_drewN (Below.refl _ _) nq))
                    go_wp2_with fail
                    go_roundw
                    case rel => exact ⟨j + 1, by omega, by go_num, HC9.out, HN9.out, HM9.out⟩
                    case measure => simp [intOf]; omega
                · obtain ⟨q, rfl⟩ : ∃ q, j = q + 1 := ⟨j - 1, by omega⟩
                  obtain ⟨z, hz⟩ : ∃ z, hs[q]? = some z := ⟨hs[q]'(by rw [HNH.out]; omega), List.getElem?_eq_getElem _⟩
                  obtain ⟨_, b8, e9⟩ := HN8.out.cell q z hz
                  have hzy : z < y := by
                    have hr := HC7.out.rise
                    rw [HHS.out] at hr
                    have e1 := (List.getElem?_eq_some_iff.1 hz).2
                    have e2 := (List.getElem?_eq_some_iff.1 HY.out).2
                    rw [← e1, ← e2]
                    exact List.pairwise_iff_getElem.1 hr q (q + 1) _ _ (by omega)
                  have hd1 : (decide (z ≥ y)) = false := by simp; omega
                  have hd2 : (decide (y ≤ z)) = false := by simp; omega
                  have hj1 : (decide (((q + 1 : Nat) : Int) > 0)) = true := decide_eq_true (by omega)
                  have hj2 : (decide ((q : Int) + 1 > 0)) = true := decide_eq_true (by omega)
                  have hi1 : IntKind.i64.wrap ((q : Int) + 1 - 1) = (q : Int) := by rw [IntWalk.i64_in _ (by omega)]; omega
                  have hi3 : (0 : Int) ≤ (q : Int) := by omega
                  have hi4 : (q : Int) < (nh : Int) := by omega
                  clear hz hzy
                  rcases HST.out with rfl | ⟨rfl, h1⟩
                  · clear HST
                    go_wp2_with fail
                    go_quiet (fail)
                    have HC9 := Lib.hid (HC8.out.kept (below_drewN (Below.refl _ _) nq))
                    have HN9 := Lib.hid (HN8.out.below (below_drewN (Below.refl _ _) nq))
                    have HM9 := Lib.hid (HM8.out.below (below_drewN (Below.refl _ _) nq))
                    go_wp2_with fail
                    go_roundw
                    case rel => exact ⟨(q + 1) + 1, by omega, by go_num, HC9.out, HN9.out, HM9.out⟩
                    case measure => simp [intOf]; omega
                  · omega
              · obtain rfl : nh = j := by omega
                clear hjl
                go_wp2_with fail
                go_loopw [9] (fun i wi => ∃ j : Nat, j ≤ nw ∧ i = .int .i64 (j : Int) ∧ Lw w1 wi R b (k + 1) Q2 H2 ∧ Nl wi A5 c5 g5 qs) (fun i _ => nw - (intOf i).toNat)
                case atStart => exact ⟨0, Nat.zero_le _, rfl, HC7.out, HM7.out⟩
                case round =>
                  obtain ⟨j, hj, rfl, h1, h3⟩ := hrel
                  have HC8 := Lib.hid h1
                  have HM8 := Lib.hid h3
                  clear h1 h3
                  by_cases hjl : j < nw
                  · obtain ⟨y, hy⟩ : ∃ y, qs[j]? = some y := ⟨qs[j]'(by rw [HNW.out]; exact hjl), List.getElem?_eq_getElem _⟩
                    have HYW := Lib.hid (HC8.out.wait (show y ∈ keysOf Q2 from HQS.out.symm ▸ List.mem_of_getElem? hy))
                    obtain ⟨rfl, b7, e7⟩ := HM8.out.cell j y hy
                    have hjI : (j : Int) < (nw : Int) := by omega
                    clear hy
                    go_wp2_with fail
                    refine (lw_state HC8.out (by omega) y HYW.out.1 1 HYW.out.2).mono ?_
                    rintro _ w9 ⟨rfl, h1⟩
                    have HC9 := Lib.hid (HC8.out.kept h1)
                    have HM9 := Lib.hid (HM8.out.below h1)
                    clear h1 e7
                    go_wp2_with fail
                    go_roundw
                    case rel => exact ⟨j + 1, by omega, by go_num, HC9.out, HM9.out⟩
                    case measure => simp [intOf]; omega
                  · obtain rfl : nw = j := by omega
                    clear hjl
                    have hw1 : IntKind.i64.wrap ((nh : Int) + (nw : Int)) = (nh : Int) + (nw : Int) := by rw [IntWalk.i64_in _ (by omega)]
                    have hd1 : (decide ((k : Int) + 1 < (nh : Int) + (nw : Int))) = false := decide_eq_false (by omega)
                    by_cases hh0 : nh = 0
                    · have hq0 := HE5.out hh0
                      subst hh0
                      subst hq0
                      go_wp2_with fail
                      go_roundw
                      case rel => exact ⟨k + 1, Q2, H2, by omega, by go_num, HC8.out, HE4.out⟩
                      case measure => simp [intOf]; omega
                    · have hd2 : ((nh : Int) == 0) = false := beq_false_of_ne (by omega)
                      go_wp2_with fail
                      go_roundw
                      case rel => exact ⟨k + 1, Q2, H2, by omega, by go_num, HC8.out, HE4.out⟩
                      case measure => simp [intOf]; omega)
        · have o1' : (op == 1) = false := by simpa using o1
          have HWK := Lib.hid (lw_leaveX HC.out (by omega) x F1.out)
          go_wp2_with (first
            | (go_at_call 12
               (with_reducible refine (HWK.out).mono ?_)
               rintro _ w3 ⟨A3, c3, g3, rfl, h1, h2⟩
               have HD := Lib.hid (show ∃ Q2 H2, Lw w1 w3 R b (k + 1) Q2 H2 ∧ Em Q2 H2 from ⟨_, _, lw_mono h1 (by omega), em_lv HE.out x⟩)
               clear h1 h2)
            | fail)
          obtain ⟨Q2, H2, h1, h2⟩ := HD.out
          have HC4 := Lib.hid h1
          have HE4 := Lib.hid h2
          clear h1 h2
          go_wp2_with fail
          refine (lw_holdX HC4.out (by omega)).mono ?_
          rintro _ w4 ⟨A4, c4, g4, rfl, h1, h2⟩
          have HN4 := Lib.hid h1
          have HC5 := Lib.hid (HC4.out.kept h2)
          have hle4 := h1.le
          clear h1 h2
          go_wp2_with fail
          refine (lw_queueX HC5.out (by omega)).mono ?_
          rintro _ w5 ⟨A5, c5, g5, rfl, h1, h2⟩
          have HN5 := Lib.hid h1
          have HN4' := Lib.hid (HN4.out.below h2)
          have HC6 := Lib.hid (HC5.out.kept h2)
          have hle5 := h1.le
          clear h1 h2
          have hqlen : (srtK H2).length + (keysOf Q2).length ≤ k + 1 := by rw [srtK_len, keysOf_len]; exact HC6.out.lenb
          have hem5 : (srtK H2).length = 0 → (keysOf Q2).length = 0 := by rw [srtK_len, keysOf_len]; exact fun h => by rw [HE4.out (List.length_eq_zero_iff.1 h)]; rfl
          obtain ⟨hs, hhs⟩ : ∃ hs, srtK H2 = hs := ⟨_, rfl⟩
          obtain ⟨qs, hqs⟩ : ∃ qs, keysOf Q2 = qs := ⟨_, rfl⟩
          have HHS := Lib.hid hhs
          have HQS := Lib.hid hqs
          rw [hhs] at hqlen hem5 hle4 HN4'
          rw [hqs] at hqlen hem5 hle5 HN5
          rw [hhs, hqs]
          obtain ⟨nh, hnh⟩ : ∃ nh, hs.length = nh := ⟨_, rfl⟩
          obtain ⟨nw, hnw⟩ : ∃ nw, qs.length = nw := ⟨_, rfl⟩
          have HNH := Lib.hid hnh
          have HNW := Lib.hid hnw
          rw [hnh] at hqlen hem5 hle4 ⊢
          rw [hnw] at hqlen hem5 hle5 ⊢
          clear hnh hnw
          have HE5 := Lib.hid hem5
          clear hhs hqs hem5
          go_wp2_with fail
          go_loopw [7] (fun i wi => ∃ j : Nat, j ≤ nh ∧ i = .int .i64 (j : Int) ∧ Lw w1 wi R b (k + 1) Q2 H2 ∧ Nl wi A4 c4 g4 hs ∧ Nl wi A5 c5 g5 qs) (fun i _ => nh - (intOf i).toNat)
          case atStart => exact ⟨0, Nat.zero_le _, rfl, HC6.out, HN4'.out, HN5.out⟩
          case round =>
            obtain ⟨j, hj, rfl, h1, h2, h3⟩ := hrel
            have HC7 := Lib.hid h1
            have HN7 := Lib.hid h2
            have HM7 := Lib.hid h3
            clear h1 h2 h3
            by_cases hjl : j < nh
            · obtain ⟨y, hy⟩ : ∃ y, hs[j]? = some y := ⟨hs[j]'(by rw [HNH.out]; exact hjl), List.getElem?_eq_getElem _⟩
              have HY := Lib.hid hy
              have HYM := Lib.hid (show y ∈ srtK H2 from HHS.out.symm ▸ List.mem_of_getElem? hy)
              obtain ⟨rfl, b7, e7⟩ := HN7.out.cell j y hy
              have hjI : (j : Int) < (nh : Int) := by omega
              clear hy
              obtain ⟨fy, v, HV⟩ := (HC7.out.hold HYM.out)
              have HSV := Lib.hid HV.2.1
              have HV23 := Lib.hid HV.2.2.1
              have HV3 := Lib.hid (show v = 3 → nh = 1 from fun e => by rw [← HNH.out, ← HHS.out, srtK_len]; exact HV.2.2.2 e)
              clear HV
              have FY := Lib.hid fy
              clear fy
              go_wp2_with fail
              refine (lw_state HC7.out (by omega) y FY.out v HSV.out).mono ?_
              rintro _ w8 ⟨rfl, h1⟩
              have HC8 := Lib.hid (HC7.out.kept h1)
              have HN8 := Lib.hid (HN7.out.below h1)
              have HM8 := Lib.hid (HM7.out.below h1)
              clear h1 e7
              have HST := Lib.hid (show v = 2 ∨ v = 3 ∧ nh = 1 from HV23.out.imp id (fun e => ⟨e, HV3.out e⟩))
              clear HSV
              obtain ⟨_, b8, e8⟩ := HN8.out.cell j y HY.out
              by_cases hj0 : j = 0
              · have hj1 : (decide ((j : Int) > 0)) = false := by simp; omega
                rcases HST.out with rfl | ⟨rfl, h1⟩
                · clear HST e8
                  go_wp2_with fail
                  go_quiet (fail)
                  have HC9 := Lib.hid (HC8.out.kept (below_drewN (Below.refl _ _) nq))
                  have HN9 := Lib.hid (HN8.out.below (below_drewN (Below.refl _ _) nq))
                  have HM9 := Lib.hid (HM8.out.below (below_drewN (Below.refl _ _) nq))
                  go_wp2_with fail
                  go_roundw
                  case rel => exact ⟨j + 1, by omega, by go_num, HC9.out, HN9.out, HM9.out⟩
                  case measure => simp [intOf]; omega
                · have h2 : ((nh : Int) != 1) = false := by simp [h1]
                  clear HST e8 h1
                  go_wp2_with fail
                  go_quiet (fail)
                  have HC9 := Lib.hid (HC8.out.kept (below_drewN (Below.refl _ _) nq))
                  have HN9 := Lib.hid (HN8.out.below (below_drewN (Below.refl _ _) nq))
                  have HM9 := Lib.hid (HM8.out.below (below_drewN (Below.refl _ _) nq))
                  go_wp2_with fail
                  go_roundw
                  case rel => exact ⟨j + 1, by omega, by go_num, HC9.out, HN9.out, HM9.out⟩
                  case measure => simp [intOf]; omega
              · obtain ⟨q, rfl⟩ : ∃ q, j = q + 1 := ⟨j - 1, by omega⟩
                obtain ⟨z, hz⟩ : ∃ z, hs[q]? = some z := ⟨hs[q]'(by rw [HNH.out]; omega), List.getElem?_eq_getElem _⟩
                obtain ⟨_, b8, e9⟩ := HN8.out.cell q z hz
                have hzy : z < y := by
                  have hr := HC7.out.rise
                  rw [HHS.out] at hr
                  have e1 := (List.getElem?_eq_some_iff.1 hz).2
                  have e2 := (List.getElem?_eq_some_iff.1 HY.out).2
                  rw [← e1, ← e2]
                  exact List.pairwise_iff_getElem.1 hr q (q + 1) _ _ (by omega)
                have hd1 : (decide (z ≥ y)) = false := by simp; omega
                have hd2 : (decide (y ≤ z)) = false := by simp; omega
                have hj1 : (decide (((q + 1 : Nat) : Int) > 0)) = true := decide_eq_true (by omega)
                have hj2 : (decide ((q : Int) + 1 > 0)) = true := decide_eq_true (by omega)
                have hi1 : IntKind.i64.wrap ((q : Int) + 1 - 1) = (q : Int) := by rw [IntWalk.i64_in _ (by omega)]; omega
                have hi3 : (0 : Int) ≤ (q : Int) := by omega
                have hi4 : (q : Int) < (nh : Int) := by omega
                clear hz hzy
                rcases HST.out with rfl | ⟨rfl, h1⟩
                · clear HST
                  go_wp2_with fail
                  go_quiet (fail)
                  have HC9 := Lib.hid (HC8.out.kept (below_drewN (Below.refl _ _) nq))
                  have HN9 := Lib.hid (HN8.out.below (below_drewN (Below.refl _ _) nq))
                  have HM9 := Lib.hid (HM8.out.below (below_drewN (Below.refl _ _) nq))
                  go_wp2_with fail
                  go_roundw
                  case rel => exact ⟨(q + 1) + 1, by omega, by go_num, HC9.out, HN9.out, HM9.out⟩
                  case measure => simp [intOf]; omega
                · omega
            · obtain rfl : nh = j := by omega
              clear hjl
              go_wp2_with fail
              go_loopw [9] (fun i wi => ∃ j : Nat, j ≤ nw ∧ i = .int .i64 (j : Int) ∧ Lw w1 wi R b (k + 1) Q2 H2 ∧ Nl wi A5 c5 g5 qs) (fun i _ => nw - (intOf i).toNat)
              case atStart => exact ⟨0, Nat.zero_le _, rfl, HC7.out, HM7.out⟩
              case round =>
                obtain ⟨j, hj, rfl, h1, h3⟩ := hrel
                have HC8 := Lib.hid h1
                have HM8 := Lib.hid h3
                clear h1 h3
                by_cases hjl : j < nw
                · obtain ⟨y, hy⟩ : ∃ y, qs[j]? = some y := ⟨qs[j]'(by rw [HNW.out]; exact hjl), List.getElem?_eq_getElem _⟩
                  have HYW := Lib.hid (HC8.out.wait (show y ∈ keysOf Q2 from HQS.out.symm ▸ List.mem_of_getElem? hy))
                  obtain ⟨rfl, b7, e7⟩ := HM8.out.cell j y hy
                  have hjI : (j : Int) < (nw : Int) := by omega
                  clear hy
                  go_wp2_with fail
                  refine (lw_state HC8.out (by omega) y HYW.out.1 1 HYW.out.2).mono ?_
                  rintro _ w9 ⟨rfl, h1⟩
                  have HC9 := Lib.hid (HC8.out.kept h1)
                  have HM9 := Lib.hid (HM8.out.below h1)
                  clear h1 e7
                  go_wp2_with fail
                  go_roundw
                  case rel => exact ⟨j + 1, by omega, by go_num, HC9.out, HM9.out⟩
                  case measure => simp [intOf]; omega
                · obtain rfl : nw = j := by omega
                  clear hjl
                  have hw1 : IntKind.i64.wrap ((nh : Int) + (nw : Int)) = (nh : Int) + (nw : Int) := by rw [IntWalk.i64_in _ (by omega)]
                  have hd1 : (decide ((k : Int) + 1 < (nh : Int) + (nw : Int))) = false := decide_eq_false (by omega)
                  by_cases hh0 : nh = 0
                  · have hq0 := HE5.out hh0
                    subst hh0
                    subst hq0
                    go_wp2_with fail
                    go_roundw
                    case rel => exact ⟨k + 1, Q2, H2, by omega, by go_num, HC8.out, HE4.out⟩
                    case measure => simp [intOf]; omega
                  · have hd2 : ((nh : Int) == 0) = false := beq_false_of_ne (by omega)
                    go_wp2_with fail
                    go_roundw
                    case rel => exact ⟨k + 1, Q2, H2, by omega, by go_num, HC8.out, HE4.out⟩
                    case measure => simp [intOf]; omega
    · obtain rfl : k = len := by omega
      clear hc hem hlt
      go_wp2
      go_ret
      exact ⟨rfl, HB1.out.trans (HC.out.bel.mono HB1.out.size)⟩
set_option maxHeartbeats 4000000 in
theorem alone_big (w : World) (A : Option Addr) (len cap : Nat) (h : 100 < len) : Calls Try.prog 4 #[.slice A len cap] w fun e w' => e = .returned (.bool true) ∧ Below w.heap.size w w' := by
  have hl2 : (len : Int) > 100 := by omega
  go_enter Try.func4, Try.ntmps4
  go_wp2_with fail
  refine (first_any _).mono ?_
  rintro _ w1 ⟨rfl, hb⟩
  have HB1 := Lib.hid hb
  clear hb
  go_wp2_with fail
  refine (first_any _).mono ?_
  rintro _ w2 ⟨rfl, hb⟩
  have HB2 := Lib.hid hb
  clear hb
  go_wp2
  go_ret
  exact ⟨rfl, HB1.out.trans (HB2.out.mono HB1.out.size)⟩
theorem rwAlone_walk (w : World) (A0 : Option Addr) (len0 cap0 : Nat) (S0 : Sh.ok w (Sh.slice 2 (Sh.agg 2 [(0, 1, (Sh.int .i64)), (1, 1, (Sh.int .i64))])) [.slice A0 len0 cap0]) :
    Calls Try.prog 4 #[.slice A0 len0 cap0] w fun e w' => e = .returned (.bool true) ∧ Below w.heap.size w w' := by
  obtain ⟨b, off, xs, hl, hm, hA⟩ := acts_of S0
  by_cases h : 100 < len0
  · exact alone_big w A0 len0 cap0 h
  · exact alone_in w A0 len0 cap0 b off xs hl hm (by omega) hA
end Go.Proofs.Ytkhlimlcnlalgaa
