/- RingTexts: its walk. -/
import Derived.Test.YtglifomkhcikdaaRt
namespace Go.Proofs.Ytglifomkhcikdaa
open Go.RowKit
set_option linter.unusedVariables false
set_option maxRecDepth 100000
theorem wpList_max {w : World} {ops : Array Oper} {rest : List Oper} {o : Oper} {a : Act} {Q : Exit → Act → World → Prop} (hgd : o.guard = none) (x y : Operand)
    (ho : o.op = .call { callee := .builtin .max, args := #[x, y], argTypes := #[3, 3] }) {p q : Int} (hx : a.eval x = .int .i64 p) (hy : a.eval y = .int .i64 q)
    (hK : wpList Try.prog ops Q rest (a.put o.dst (.int .i64 (max p q))) w) : wpList Try.prog ops Q (o :: rest) a w := by
  refine wpList_plain hgd fun K hK' => ?_
  have hrun : (Builtin.max_ #[3, 3] o.type #[.int .i64 p, .int .i64 q]).run Try.prog w = .ok (.int .i64 (max p q)) w := by
    rw [run_max_int2]
    by_cases h : q > p
    · rw [if_pos h, show max p q = q by omega]
    · rw [if_neg h, show max p q = p by omega]
  unfold Oper.wp
  simp [execOp, ho, resolve, invoke, builtin, hx, hy, hrun, Result.andThen]
  exact hK' _ _ hK
def vts (ts : List ByteArray) : List Value := ts.map Value.string
theorem vts_get {ts : List ByteArray} {i : Nat} {x : ByteArray} (h : ts[i]? = some x) : (vts ts)[i]? = some (.string x) := by simp [vts, h]
set_option maxHeartbeats 4000000 in
theorem texts_go (w : World) (a0 : Int) (M : Nat) (hM1 : 1 ≤ M) (hmx : max a0 1 = (M : Int)) (A : Option Addr) (len cap b off : Nat) (ts : List ByteArray) (h : Strs w A len b off ts) (hcap : len ≤ cap) (hl : len ≤ 40) :
    Calls Try.prog 5 #[.int .i64 a0, .slice A len cap] w fun e w' => e = .returned (.bool true) ∧ Below w.heap.size w w' := by
  have CF := Lib.hid first_any
  have HI := Lib.hid h
  have HMX := Lib.hid hmx
  have hci : (len : Int) ≤ (cap : Int) := by omega
  clear h hmx
  have H0 := Lib.hid (Below.refl w.heap.size w)
  go_enter Try.func5, Try.ntmps5
  go_wp2_with (first
    | (go_at_call 7; refine (CF.out _).mono ?_; rintro _ w1 ⟨rfl, h1⟩; have H0 := Lib.hid (H0.out.trans (h1.mono H0.out.size)); clear h1)
    | (go_at_call 12
       refine (tnew_any _ _).mono ?_
       rintro _ w2 ⟨rfl, h1, h2⟩
       rw [HMX.out] at h1
       have HR := Lib.hid h1
       have HG := Lib.hid H0.out.size
       have H2 := Lib.hid (H0.out.trans (h2.mono H0.out.size))
       generalize w1.heap.size = R at *
       clear h1 h2)
    | (refine wpList_max rfl (.tmp 22) (.const (.int .i64 1)) rfl rfl rfl ?hK; rw [HMX.out])
    | fail)
  go_loopw [6] (fun i wr => ∃ (k F g : Nat) (items : List Value), k ≤ len ∧ i = .int .i64 (k : Int) ∧ Rng 49 9 wr R g M F items ∧ RInv (vts ts) M k F items ∧ w.heap.size ≤ g ∧ Below w.heap.size w wr) (fun i _ => len - (intOf i).toNat)
  case atStart => exact ⟨0, 0, R, [], Nat.zero_le _, rfl, HR.out, RInv.start _ _, HG.out, H2.out⟩
  case round =>
    obtain ⟨k, F, g, items, hk, rfl, hR, hI, hg, hU⟩ := hrel
    have HRG := Lib.hid hR
    have HINV := Lib.hid hI
    have HGG := Lib.hid hg
    have HU := Lib.hid hU
    clear hR hI hg hU
    by_cases hlt : k < len
    · obtain ⟨x, hx⟩ : ∃ x, ts[k]? = some x := ⟨ts[k]'(by rw [HI.out.hlen]; exact hlt), List.getElem?_eq_getElem _⟩
      obtain ⟨rfl, hbw⟩ := HI.out.addr (by omega)
      have HX := Lib.hid hx
      have cx := (HI.out.below HU.out).cell k x hx
      have hki : (k : Int) < (len : Int) := by omega
      clear hx hbw
      by_cases hkM : k < M
      · have hF0 := (HINV.out.room hkM (vts_get HX.out)).1
        subst hF0
        have HN := Lib.hid (HINV.out.room hkM (vts_get HX.out)).2
        have hkM3 : ¬ (M : Int) ≤ (k : Int) := by omega
        have hil : items.length = k := by rw [HINV.out.len]; omega
        have HIL := Lib.hid hil
        clear hil
        go_wp2_with (first
          | (go_at_call 13
             refine (tpush_room HRG.out (by rw [HIL.out]; omega) (by rw [HIL.out]; omega) x).mono ?_
             rintro _ w3 ⟨rfl, g3, h1, h2, h3⟩
             have HR3 := Lib.hid h1
             have H3 := Lib.hid (HU.out.trans (h3.below HG.out HGG.out HU.out.size))
             have HG3 := Lib.hid (show w.heap.size ≤ g3 by have := HU.out.size; have := HGG.out; omega)
             clear h1 h2 h3)
          | fail)
        go_roundw
        case rel => exact ⟨k + 1, 0, g3, _, by omega, by go_num, HR3.out, HN.out, HG3.out, H3.out⟩
        case measure => simp [intOf]; omega
      · have hkM' : M ≤ k := by omega
        obtain ⟨hFM, hil, h0, hN⟩ := HINV.out.full hM1 hkM' (vts_get HX.out)
        obtain ⟨y0, hy0⟩ : ∃ y0, ts[k - M]? = some y0 := ⟨ts[k - M]'(by rw [HI.out.hlen]; omega), List.getElem?_eq_getElem _⟩
        rw [vts_get hy0] at h0
        have HN := Lib.hid hN
        have HIL := Lib.hid hil
        have HY0 := Lib.hid hy0
        have HA0 := Lib.hid h0
        have hkM3 : (M : Int) ≤ (k : Int) := by omega
        have hkM6 : (k : Int) - (M : Int) < (len : Int) := by omega
        have hkM7 : 0 ≤ (k : Int) - (M : Int) := by omega
        clear hil hN hy0 h0
        go_wp2_with (first
          | (go_at_call 13
             refine (tpush_full (x := x) (y := y0) (n := M) HRG.out HIL.out (by omega) (by omega) hFM HA0.out).mono ?_
             rintro _ w3 ⟨rfl, h1, h3⟩
             have HR3 := Lib.hid h1
             have H3 := Lib.hid (HU.out.trans (h3.below HG.out HGG.out HU.out.size))
             have cy0 := (HI.out.below H3.out).cell (k - M) y0 HY0.out
             clear h1 h3)
          | fail)
        go_roundw
        case rel => exact ⟨k + 1, (F + 1) % M, g, _, by omega, by go_num, HR3.out, HN.out, HGG.out, H3.out⟩
        case measure => simp [intOf]; omega
    · have hkl : k = len := by omega
      subst hkl
      by_cases hnM : k ≤ M
      · have hnM2 : (k : Int) ≤ (M : Int) := by omega
        have hmn : min k M = k := by omega
        have HIT := Lib.hid (show items.length = k by rw [HINV.out.len, hmn])
        have HMN := Lib.hid hmn
        clear hmn
        go_wp2_with fail
        go_loopw [9] (fun i wr4 => ∃ j : Nat, j ≤ k ∧ i = .int .i64 (j : Int) ∧ Rng 49 9 wr4 R g M F items ∧ Below w.heap.size w wr4) (fun i _ => k - (intOf i).toNat)
        case atStart => exact ⟨0, Nat.zero_le _, rfl, HRG.out, HU.out⟩
        case round =>
          obtain ⟨j, hj, rfl, hR5, hU5⟩ := hrel
          have HR5 := Lib.hid hR5
          have HU5 := Lib.hid hU5
          clear hR5 hU5
          by_cases hltj : j < k
          · obtain ⟨y, hy⟩ : ∃ y, ts[j]? = some y := ⟨ts[j]'(by rw [HI.out.hlen]; omega), List.getElem?_eq_getElem _⟩
            obtain ⟨rfl, _⟩ := HI.out.addr (by omega)
            have HFF := Lib.hid (show F < k by have := HINV.out.lt (by have := HMN.out; omega); rwa [HMN.out] at this)
            have HAT := Lib.hid (show items[(F + j) % k]? = some (.string y) by
              have h7 := HINV.out.at' j (by rw [HMN.out]; exact hltj)
              rw [HMN.out, show k - k + j = j by omega, vts_get hy] at h7
              exact h7)
            have HY := Lib.hid hy
            have hjn : (j : Int) < (k : Int) := by omega
            have hj50 : (j : Int) < 50 := by omega
            have hjl : (j : Int) < (k : Int) := by omega
            have q1 : (k : Int) - (k : Int) + (j : Int) < (k : Int) := by omega
            have q2 : 0 ≤ (k : Int) - (k : Int) + (j : Int) := by omega
            clear hy
            go_wp2_with (first
              | (go_at_call 14
                 refine (tlen_any HR5.out).mono ?_
                 rintro _ w5 ⟨rfl, h1⟩
                 rw [HIT.out]
                 have HR6 := Lib.hid (HR5.out.below h1)
                 have H6 := Lib.hid (HU5.out.trans (h1.mono HU5.out.size))
                 clear h1)
              | (go_at_call 15
                 refine (tat_in (y := y) (i := j) (n := k) HR6.out HIT.out (by omega) HFF.out hltj HAT.out).mono ?_
                 rintro _ w7 ⟨rfl, h1⟩
                 have HR7 := Lib.hid (HR6.out.below h1)
                 have H7 := Lib.hid (H6.out.trans (h1.mono H6.out.size))
                 have cy := (HI.out.below H7.out).cell (j) y HY.out
                 clear h1)
              | fail)
            go_roundw
            case rel => exact ⟨j + 1, by omega, by go_num, HR7.out, H7.out⟩
            case measure => simp [intOf]; omega
          · have hjn : k = j := by omega
            subst hjn
            go_wp2_with (first
              | (go_at_call 14
                 refine (tlen_any HR5.out).mono ?_
                 rintro _ w5 ⟨rfl, h1⟩
                 rw [HIT.out]
                 have HR6 := Lib.hid (HR5.out.below h1)
                 have H6 := Lib.hid (HU5.out.trans (h1.mono HU5.out.size))
                 clear h1 HR5)
              | (go_at_call 14
                 refine (tlen_any HR6.out).mono ?_
                 rintro _ w7 ⟨rfl, h1⟩
                 rw [HIT.out]
                 have H7 := Lib.hid (H6.out.trans (h1.mono H6.out.size))
                 clear h1)
              | fail)
            go_ret
            exact ⟨rfl, H7.out⟩
      · have hnM2 : ¬ (k : Int) ≤ (M : Int) := by omega
        have hnM3 : (M : Int) < (k : Int) := by omega
        have hmn : min k M = M := by omega
        have HIT := Lib.hid (show items.length = M by rw [HINV.out.len, hmn])
        have HMN := Lib.hid hmn
        clear hmn
        go_wp2_with fail
        go_loopw [9] (fun i wr4 => ∃ j : Nat, j ≤ M ∧ i = .int .i64 (j : Int) ∧ Rng 49 9 wr4 R g M F items ∧ Below w.heap.size w wr4) (fun i _ => M - (intOf i).toNat)
        case atStart => exact ⟨0, Nat.zero_le _, rfl, HRG.out, HU.out⟩
        case round =>
          obtain ⟨j, hj, rfl, hR5, hU5⟩ := hrel
          have HR5 := Lib.hid hR5
          have HU5 := Lib.hid hU5
          clear hR5 hU5
          by_cases hltj : j < M
          · obtain ⟨y, hy⟩ : ∃ y, ts[(k - M + j)]? = some y := ⟨ts[(k - M + j)]'(by rw [HI.out.hlen]; omega), List.getElem?_eq_getElem _⟩
            obtain ⟨rfl, _⟩ := HI.out.addr (by omega)
            have HFF := Lib.hid (show F < M by have := HINV.out.lt (by have := HMN.out; omega); rwa [HMN.out] at this)
            have HAT := Lib.hid (show items[(F + j) % M]? = some (.string y) by
              have h7 := HINV.out.at' j (by rw [HMN.out]; exact hltj)
              rw [HMN.out, show k - M + j = (k - M + j) by omega, vts_get hy] at h7
              exact h7)
            have HY := Lib.hid hy
            have hjn : (j : Int) < (M : Int) := by omega
            have hj50 : (j : Int) < 50 := by omega
            have hjl : (j : Int) < (k : Int) := by omega
            have q1 : (k : Int) - (M : Int) + (j : Int) < (k : Int) := by omega
            have q2 : 0 ≤ (k : Int) - (M : Int) + (j : Int) := by omega
            clear hy
            go_wp2_with (first
              | (go_at_call 14
                 refine (tlen_any HR5.out).mono ?_
                 rintro _ w5 ⟨rfl, h1⟩
                 rw [HIT.out]
                 have HR6 := Lib.hid (HR5.out.below h1)
                 have H6 := Lib.hid (HU5.out.trans (h1.mono HU5.out.size))
                 clear h1)
              | (go_at_call 15
                 refine (tat_in (y := y) (i := j) (n := M) HR6.out HIT.out (by omega) HFF.out hltj HAT.out).mono ?_
                 rintro _ w7 ⟨rfl, h1⟩
                 have HR7 := Lib.hid (HR6.out.below h1)
                 have H7 := Lib.hid (H6.out.trans (h1.mono H6.out.size))
                 have cy := (HI.out.below H7.out).cell ((k - M + j)) y HY.out
                 clear h1)
              | fail)
            go_roundw
            case rel => exact ⟨j + 1, by omega, by go_num, HR7.out, H7.out⟩
            case measure => simp [intOf]; omega
          · have hjn : M = j := by omega
            subst hjn
            go_wp2_with (first
              | (go_at_call 14
                 refine (tlen_any HR5.out).mono ?_
                 rintro _ w5 ⟨rfl, h1⟩
                 rw [HIT.out]
                 have HR6 := Lib.hid (HR5.out.below h1)
                 have H6 := Lib.hid (HU5.out.trans (h1.mono HU5.out.size))
                 clear h1 HR5)
              | (go_at_call 14
                 refine (tlen_any HR6.out).mono ?_
                 rintro _ w7 ⟨rfl, h1⟩
                 rw [HIT.out]
                 have H7 := Lib.hid (H6.out.trans (h1.mono H6.out.size))
                 clear h1)
              | fail)
            go_ret
            exact ⟨rfl, H7.out⟩
theorem texts_big (w : World) (a0 : Int) (A : Option Addr) (len cap : Nat) (hl : 40 < len) :
    Calls Try.prog 5 #[.int .i64 a0, .slice A len cap] w fun e w' => e = .returned (.bool true) ∧ Below w.heap.size w w' := by
  have CF := Lib.hid first_any
  have H0 := Lib.hid (Below.refl w.heap.size w)
  go_enter Try.func5, Try.ntmps5
  go_wp2_with (go_at_call 7; refine (CF.out _).mono ?_; rintro _ w1 ⟨rfl, h1⟩; have H0 := Lib.hid (H0.out.trans (h1.mono H0.out.size)); clear h1)
  all_goals (try omega)
  all_goals (try (go_ret; exact ⟨rfl, Hid.out ‹Hid (Below w.heap.size w _)›⟩))
theorem ringTexts_walk (w : World) (a0 : Int) (w0 : (Lit.int .i64 a0).wf = true) (A1 : Option Addr) (len1 cap1 : Nat) (S1 : Sh.ok w (Sh.slice 1 Sh.str) [.slice A1 len1 cap1]) :
    Calls Try.prog 5 #[.int .i64 a0, .slice A1 len1 cap1] w fun e w' => e = .returned (.bool true) ∧ Below w.heap.size w w' := by
  obtain ⟨hc, b, off, ts, h⟩ := strs_open S1
  by_cases hl : 40 < len1
  · exact texts_big w a0 A1 len1 cap1 hl
  · exact texts_go w a0 (max a0 1).toNat (by omega) (by omega) A1 len1 cap1 b off ts h hc (by omega)
end Go.Proofs.Ytglifomkhcikdaa
