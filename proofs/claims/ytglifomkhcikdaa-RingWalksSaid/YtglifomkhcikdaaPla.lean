/- RingPlays: its walk. -/
import Derived.Test.YtglifomkhcikdaaRi
namespace Go.Proofs.Ytglifomkhcikdaa
open Go.RowKit
set_option linter.unusedVariables false
set_option maxRecDepth 100000
theorem wpList_max {w : World} {ops : Array Oper} {rest : List Oper} {o : Oper} {a : Act} {Q : Exit → Act → World → Prop} (hgd : o.guard = none) (x y : Operand)
    (ho : o.op = .call { callee := .builtin .max, args := #[x, y], argTypes := #[3, 3] }) {p q : Int} (hx : a.eval x = .int .i64 p) (hy : a.eval y = .int .i64 q)
    (hK : wpList Try.prog ops Q rest (a.put o.dst (.int .i64 (max p q))) w) : wpList Try.prog ops Q (o :: rest) a w := by
  refine wpList_plain hgd fun K hK' => ?_
  have hrun : (Builtin.max_ #[3, 3] o.type #[.int .i64 p, .int .i64 q]).run Try.prog w = .ok (.int .i64 (max p q)) w := by
    rw [run_max_int2]
    by_cases h : q > p
    · rw [if_pos h, show max p q = q by omega]
    · rw [if_neg h, show max p q = p by omega]
  unfold Oper.wp
  simp [execOp, ho, resolve, invoke, builtin, hx, hy, hrun, Result.andThen]
  exact hK' _ _ hK
set_option maxHeartbeats 4000000 in
theorem plays_go (w : World) (a0 : Int) (M : Nat) (hM : (a0 < 1 ∧ M = 1) ∨ (a0 = M ∧ 1 ≤ M)) (A : Option Addr) (len cap b off : Nat) (xs : List Int) (h : Ints w A len b off xs) (hcap : len ≤ cap) (hl : len ≤ 80) (a2 : Int) :
    Calls Try.prog 3 #[.int .i64 a0, .slice A len cap, .int .i64 a2] w fun e w' => e = .returned (.bool true) ∧ Below w.heap.size w w' := by
  have hM1 : 1 ≤ M := by omega
  have hmx : max a0 1 = (M : Int) := by omega
  have CF := Lib.hid first_any
  have HI := Lib.hid h
  have HMX := Lib.hid hmx
  have hci : (len : Int) ≤ (cap : Int) := by omega
  clear h hmx
  have H0 := Lib.hid (Below.refl w.heap.size w)
  have HMM := Lib.hid hM
  clear hM
  go_enter Try.func3, Try.ntmps3
  go_wp2_with (first
    | (go_at_call 7; refine (CF.out _).mono ?_; rintro _ w1 ⟨rfl, h1⟩; have H0 := Lib.hid (H0.out.trans (h1.mono H0.out.size)); clear h1)
    | (go_at_call 8
       refine (new_any _ _).mono ?_
       rintro _ w2 ⟨rfl, h1, h2⟩
       rw [HMX.out] at h1
       have HR := Lib.hid h1
       have HG := Lib.hid H0.out.size
       have H2 := Lib.hid (H0.out.trans (h2.mono H0.out.size))
       generalize w1.heap.size = R at *
       clear h1 h2)
    | (refine wpList_max rfl (.tmp 31) (.const (.int .i64 1)) rfl rfl rfl ?hK; rw [HMX.out])
    | fail)
  go_loopw [8] (fun i wr => ∃ (k F g : Nat) (items : List Value), k ≤ len ∧ i = .int .i64 (k : Int) ∧ Rng 46 2 wr R g M F items ∧ RInv (vis xs) M k F items ∧ w.heap.size ≤ g ∧ Below w.heap.size w wr) (fun i _ => len - (intOf i).toNat)
  case atStart => exact ⟨0, 0, R, [], Nat.zero_le _, rfl, HR.out, RInv.start _ _, HG.out, H2.out⟩
  case round =>
    obtain ⟨k, F, g, items, hk, rfl, hR, hI, hg, hU⟩ := hrel
    have HRG := Lib.hid hR
    have HINV := Lib.hid hI
    have HGG := Lib.hid hg
    have HU := Lib.hid hU
    clear hR hI hg hU
    by_cases hlt : k < len
    · obtain ⟨x, hx⟩ : ∃ x, xs[k]? = some x := ⟨xs[k]'(by rw [HI.out.hlen]; exact hlt), List.getElem?_eq_getElem _⟩
      obtain ⟨rfl, hbw⟩ := HI.out.addr (by omega)
      have HX := Lib.hid hx
      have cx := (HI.out.below HU.out).cell k x hx
      have hki : (k : Int) < (len : Int) := by omega
      clear hx hbw
      by_cases hkM : k < M
      · have hF0 := (HINV.out.room hkM (vis_get HX.out)).1
        subst hF0
        have HN := Lib.hid (HINV.out.room hkM (vis_get HX.out)).2
        have hkM2 : (k : Int) < (M : Int) := by omega
        have hkM3 : ¬ (M : Int) ≤ (k : Int) := by omega
        have hkM4 : (k : Int) + 1 ≤ (M : Int) := by omega
        have hil : items.length = k := by rw [HINV.out.len]; omega
        have HIL := Lib.hid hil
        clear hil
        go_wp2_with (first
          | (go_at_call 9
             refine (push_room HRG.out (by rw [HIL.out]; exact hkM2) (by rw [HIL.out]; omega) x).mono ?_
             rintro _ w3 ⟨rfl, g3, h1, h2, h3⟩
             have HR3 := Lib.hid h1
             have H3 := Lib.hid (HU.out.trans (h3.below HG.out HGG.out HU.out.size))
             have HG3 := Lib.hid (show w.heap.size ≤ g3 by have := HU.out.size; have := HGG.out; omega)
             clear h1 h2 h3)
          | (go_at_call 10
             refine (len_any HR3.out).mono ?_
             rintro _ w4 ⟨rfl, h1⟩
             have e4 : (items ++ [Value.int .i64 x]).length = k + 1 := by rw [List.length_append, HIL.out]; rfl
             rw [e4]
             have HR4 := Lib.hid (HR3.out.below h1)
             have H4 := Lib.hid (H3.out.trans (h1.mono H3.out.size))
             clear h1 e4)
          | fail)
        have hmn : min (k + 1) M = (k + 1) := by omega
        have HIT := Lib.hid (show (items ++ [Value.int .i64 x]).length = (k + 1) by rw [HN.out.len, hmn])
        have HFF := Lib.hid (show 0 < (k + 1) by have := HN.out.lt (by omega); rwa [hmn] at this)
        have HMN := Lib.hid hmn
        clear hmn
        try simp only [show decide (M ≤ k) = false from by simp <;> omega]
        go_loopw [12] (fun i wr4 => ∃ j : Nat, j ≤ (k + 1) ∧ i = .int .i64 (j : Int) ∧ Rng 46 2 wr4 R g3 M (0 : Nat) (items ++ [Value.int .i64 x]) ∧ Below w.heap.size w wr4) (fun i _ => (k + 1) - (intOf i).toNat)
        case atStart => exact ⟨0, Nat.zero_le _, rfl, HR4.out, H4.out⟩
        case round =>
          obtain ⟨j, hj, rfl, hR5, hU5⟩ := hrel
          have HR5 := Lib.hid hR5
          have HU5 := Lib.hid hU5
          clear hR5 hU5
          by_cases hltj : j < (k + 1)
          · obtain ⟨y, hy⟩ : ∃ y, xs[j]? = some y := ⟨xs[j]'(by rw [HI.out.hlen]; omega), List.getElem?_eq_getElem _⟩
            have HAT := Lib.hid (show (items ++ [Value.int .i64 x])[(0 + j) % (k + 1)]? = some (.int .i64 y) by
              have h7 := HN.out.at' j (by rw [HMN.out]; exact hltj)
              rw [HMN.out, show k + 1 - (k + 1) + j = j by omega, vis_get hy] at h7
              exact h7)
            have HY := Lib.hid hy
            have hjn : (j : Int) < ((k : Int) + 1) := by omega
            have hjl : (j : Int) < (len : Int) := by omega
            have hjl2 : (k : Int) + 1 - ((k : Int) + 1) + (j : Int) < (len : Int) := by omega
            have hjl3 : 0 ≤ (k : Int) + 1 - ((k : Int) + 1) + (j : Int) := by omega
            clear hy
            go_wp2_with (first
              | (go_at_call 11
                 refine (at_in (y := y) (i := j) (n := (k + 1)) HR5.out HIT.out (by omega) HFF.out hltj HAT.out).mono ?_
                 rintro _ w6 ⟨rfl, h1⟩
                 have HR6 := Lib.hid (HR5.out.below h1)
                 have H6 := Lib.hid (HU5.out.trans (h1.mono HU5.out.size))
                 have cy := (HI.out.below H6.out).cell (j) y HY.out
                 clear h1)
              | fail)
            go_roundw
            case rel => exact ⟨j + 1, by omega, by go_num, HR6.out, H6.out⟩
            case measure => simp [intOf]; omega
          · have hjn : (k + 1) = j := by omega
            subst hjn
            go_wp2_with (first
              | (go_at_call 11
                 refine (at_out HR5.out (.inr (by rw [HIT.out]; omega))).mono ?_
                 rintro _ w6 ⟨rfl, h1⟩
                 have HR6 := Lib.hid (HR5.out.below h1)
                 have H6 := Lib.hid (HU5.out.trans (h1.mono HU5.out.size))
                 clear h1)
              | fail)
            go_roundw
            case rel => exact ⟨k + 1, 0, g3, _, by omega, by go_num, HR6.out, HN.out, HG3.out, H6.out⟩
            case measure => simp [intOf]; omega
      · have hkM' : M ≤ k := by omega
        obtain ⟨hFM, hil, h0, hN⟩ := HINV.out.full hM1 hkM' (vis_get HX.out)
        obtain ⟨y0, hy0⟩ : ∃ y0, xs[k - M]? = some y0 := ⟨xs[k - M]'(by rw [HI.out.hlen]; omega), List.getElem?_eq_getElem _⟩
        rw [vis_get hy0] at h0
        have HN := Lib.hid hN
        have HIL := Lib.hid hil
        have HY0 := Lib.hid hy0
        have HA0 := Lib.hid h0
        have hkM2 : ¬ (k : Int) < (M : Int) := by omega
        have hkM3 : (M : Int) ≤ (k : Int) := by omega
        have hkM4 : ¬ (k : Int) + 1 ≤ (M : Int) := by omega
        have hkM5 : (M : Int) < (k : Int) + 1 := by omega
        have hkM6 : (k : Int) - (M : Int) < (len : Int) := by omega
        have hkM7 : 0 ≤ (k : Int) - (M : Int) := by omega
        clear hil hN hy0 h0
        go_wp2_with (first
          | (go_at_call 9
             refine (push_full (x := x) (y := y0) (n := M) HRG.out HIL.out (by omega) (by omega) hFM HA0.out).mono ?_
             rintro _ w3 ⟨rfl, h1, h3⟩
             have HR3 := Lib.hid h1
             have H3 := Lib.hid (HU.out.trans (h3.below HG.out HGG.out HU.out.size))
             have cy0 := (HI.out.below H3.out).cell (k - M) y0 HY0.out
             clear h1 h3)
          | (go_at_call 10
             refine (len_any HR3.out).mono ?_
             rintro _ w4 ⟨rfl, h1⟩
             have e4 : (items.set F (Value.int .i64 x)).length = M := by rw [List.length_set, HIL.out]
             rw [e4]
             have HR4 := Lib.hid (HR3.out.below h1)
             have H4 := Lib.hid (H3.out.trans (h1.mono H3.out.size))
             clear h1 e4)
          | fail)
        have hmn : min (k + 1) M = M := by omega
        have HIT := Lib.hid (show (items.set F (Value.int .i64 x)).length = M by rw [HN.out.len, hmn])
        have HFF := Lib.hid (show ((F + 1) % M) < M by have := HN.out.lt (by omega); rwa [hmn] at this)
        have HMN := Lib.hid hmn
        clear hmn
        try simp only [show decide (M ≤ k) = true from by simp <;> omega]
        go_loopw [12] (fun i wr4 => ∃ j : Nat, j ≤ M ∧ i = .int .i64 (j : Int) ∧ Rng 46 2 wr4 R g M (((F + 1) % M) : Nat) (items.set F (Value.int .i64 x)) ∧ Below w.heap.size w wr4) (fun i _ => M - (intOf i).toNat)
        case atStart => exact ⟨0, Nat.zero_le _, rfl, HR4.out, H4.out⟩
        case round =>
          obtain ⟨j, hj, rfl, hR5, hU5⟩ := hrel
          have HR5 := Lib.hid hR5
          have HU5 := Lib.hid hU5
          clear hR5 hU5
          by_cases hltj : j < M
          · obtain ⟨y, hy⟩ : ∃ y, xs[(k + 1 - M + j)]? = some y := ⟨xs[(k + 1 - M + j)]'(by rw [HI.out.hlen]; omega), List.getElem?_eq_getElem _⟩
            have HAT := Lib.hid (show (items.set F (Value.int .i64 x))[(((F + 1) % M) + j) % M]? = some (.int .i64 y) by
              have h7 := HN.out.at' j (by rw [HMN.out]; exact hltj)
              rw [HMN.out, show k + 1 - M + j = (k + 1 - M + j) by omega, vis_get hy] at h7
              exact h7)
            have HY := Lib.hid hy
            have hjn : (j : Int) < (M : Int) := by omega
            have hjl : (j : Int) < (len : Int) := by omega
            have hjl2 : (k : Int) + 1 - (M : Int) + (j : Int) < (len : Int) := by omega
            have hjl3 : 0 ≤ (k : Int) + 1 - (M : Int) + (j : Int) := by omega
            clear hy
            go_wp2_with (first
              | (go_at_call 11
                 refine (at_in (y := y) (i := j) (n := M) HR5.out HIT.out (by omega) HFF.out hltj HAT.out).mono ?_
                 rintro _ w6 ⟨rfl, h1⟩
                 have HR6 := Lib.hid (HR5.out.below h1)
                 have H6 := Lib.hid (HU5.out.trans (h1.mono HU5.out.size))
                 have cy := (HI.out.below H6.out).cell ((k + 1 - M + j)) y HY.out
                 clear h1)
              | fail)
            go_roundw
            case rel => exact ⟨j + 1, by omega, by go_num, HR6.out, H6.out⟩
            case measure => simp [intOf]; omega
          · have hjn : M = j := by omega
            subst hjn
            go_wp2_with (first
              | (go_at_call 11
                 refine (at_out HR5.out (.inr (by rw [HIT.out]; omega))).mono ?_
                 rintro _ w6 ⟨rfl, h1⟩
                 have HR6 := Lib.hid (HR5.out.below h1)
                 have H6 := Lib.hid (HU5.out.trans (h1.mono HU5.out.size))
                 clear h1)
              | fail)
            go_roundw
            case rel => exact ⟨k + 1, ((F + 1) % M), g, _, by omega, by go_num, HR6.out, HN.out, HGG.out, H6.out⟩
            case measure => simp [intOf]; omega
    · have hkl : k = len := by omega
      subst hkl
      by_cases hnM : k ≤ M
      · have hnM2 : (k : Int) ≤ (M : Int) := by omega
        have hmn : min k M = k := by omega
        have HIT := Lib.hid (show items.length = k by rw [HINV.out.len, hmn])
        by_cases hin : 0 ≤ a2 ∧ a2 < (k : Int)
        · obtain ⟨hin1, hin2⟩ := hin
          obtain ⟨p, rfl⟩ := Int.eq_ofNat_of_zero_le hin1
          have hpn : p < k := by omega
          obtain ⟨y, hy⟩ : ∃ y, xs[p]? = some y := ⟨xs[p]'(by rw [HI.out.hlen]; omega), List.getElem?_eq_getElem _⟩
          obtain ⟨rfl, _⟩ := HI.out.addr (by omega)
          have HFF := Lib.hid (show F < k by have := HINV.out.lt (by omega); rwa [hmn] at this)
          have HAT := Lib.hid (show items[(F + p) % k]? = some (.int .i64 y) by
            have h7 := HINV.out.at' p (by rw [hmn]; exact hpn)
            rw [hmn, show k - k + p = p by omega, vis_get hy] at h7
            exact h7)
          have HY := Lib.hid hy
          have q1 : (k : Int) - (k : Int) + (p : Int) < (k : Int) := by omega
          have q2 : 0 ≤ (k : Int) - (k : Int) + (p : Int) := by omega
          have q3 : (p : Int) < (k : Int) := by omega
          clear hy
          go_wp2_with (first
            | (go_at_call 11
               refine (at_in (y := y) (i := p) (n := k) HRG.out HIT.out (by omega) HFF.out hpn HAT.out).mono ?_
               rintro _ w6 ⟨rfl, h1⟩
               have H6 := Lib.hid (HU.out.trans (h1.mono HU.out.size))
               have cy := (HI.out.below H6.out).cell (p) y HY.out
               clear h1)
            | fail)
          go_ret
          exact ⟨rfl, H6.out⟩
        · go_wp2_with (first
            | (go_at_call 11
               refine (at_out HRG.out (by rw [HIT.out]; omega)).mono ?_
               rintro _ w6 ⟨rfl, h1⟩
               have H6 := Lib.hid (HU.out.trans (h1.mono HU.out.size))
               clear h1)
            | fail)
          all_goals (try omega)
          all_goals (try (go_ret; exact ⟨rfl, Hid.out ‹Hid (Below w.heap.size w _)›⟩))
      · have hnM2 : ¬ (k : Int) ≤ (M : Int) := by omega
        have hnM3 : (M : Int) < (k : Int) := by omega
        have hmn : min k M = M := by omega
        have HIT := Lib.hid (show items.length = M by rw [HINV.out.len, hmn])
        by_cases hin : 0 ≤ a2 ∧ a2 < (M : Int)
        · obtain ⟨hin1, hin2⟩ := hin
          obtain ⟨p, rfl⟩ := Int.eq_ofNat_of_zero_le hin1
          have hpn : p < M := by omega
          obtain ⟨y, hy⟩ : ∃ y, xs[(k - M + p)]? = some y := ⟨xs[(k - M + p)]'(by rw [HI.out.hlen]; omega), List.getElem?_eq_getElem _⟩
          obtain ⟨rfl, _⟩ := HI.out.addr (by omega)
          have HFF := Lib.hid (show F < M by have := HINV.out.lt (by omega); rwa [hmn] at this)
          have HAT := Lib.hid (show items[(F + p) % M]? = some (.int .i64 y) by
            have h7 := HINV.out.at' p (by rw [hmn]; exact hpn)
            rw [hmn, show k - M + p = (k - M + p) by omega, vis_get hy] at h7
            exact h7)
          have HY := Lib.hid hy
          have q1 : (k : Int) - (M : Int) + (p : Int) < (k : Int) := by omega
          have q2 : 0 ≤ (k : Int) - (M : Int) + (p : Int) := by omega
          have q3 : (p : Int) < (k : Int) := by omega
          clear hy
          go_wp2_with (first
            | (go_at_call 11
               refine (at_in (y := y) (i := p) (n := M) HRG.out HIT.out (by omega) HFF.out hpn HAT.out).mono ?_
               rintro _ w6 ⟨rfl, h1⟩
               have H6 := Lib.hid (HU.out.trans (h1.mono HU.out.size))
               have cy := (HI.out.below H6.out).cell ((k - M + p)) y HY.out
               clear h1)
            | fail)
          go_ret
          exact ⟨rfl, H6.out⟩
        · go_wp2_with (first
            | (go_at_call 11
               refine (at_out HRG.out (by rw [HIT.out]; omega)).mono ?_
               rintro _ w6 ⟨rfl, h1⟩
               have H6 := Lib.hid (HU.out.trans (h1.mono HU.out.size))
               clear h1)
            | fail)
          all_goals (try omega)
          all_goals (try (go_ret; exact ⟨rfl, Hid.out ‹Hid (Below w.heap.size w _)›⟩))
theorem plays_big (w : World) (a0 : Int) (A : Option Addr) (len cap : Nat) (a2 : Int) (hl : 80 < len) :
    Calls Try.prog 3 #[.int .i64 a0, .slice A len cap, .int .i64 a2] w fun e w' => e = .returned (.bool true) ∧ Below w.heap.size w w' := by
  have CF := Lib.hid first_any
  have H0 := Lib.hid (Below.refl w.heap.size w)
  go_enter Try.func3, Try.ntmps3
  go_wp2_with (go_at_call 7; refine (CF.out _).mono ?_; rintro _ w1 ⟨rfl, h1⟩; have H0 := Lib.hid (H0.out.trans (h1.mono H0.out.size)); clear h1)
  all_goals (try omega)
  all_goals (try (go_ret; exact ⟨rfl, Hid.out ‹Hid (Below w.heap.size w _)›⟩))
theorem ringPlays_walk (w : World) (a0 : Int) (w0 : (Lit.int .i64 a0).wf = true) (A1 : Option Addr) (len1 cap1 : Nat) (S1 : Sh.ok w (Sh.slice 1 (Sh.int .i64)) [.slice A1 len1 cap1]) (a2 : Int) (w2 : (Lit.int .i64 a2).wf = true) :
    Calls Try.prog 3 #[.int .i64 a0, .slice A1 len1 cap1, .int .i64 a2] w fun e w' => e = .returned (.bool true) ∧ Below w.heap.size w w' := by
  obtain ⟨hc, b, off, xs, h⟩ := ints_open S1
  by_cases hl : 80 < len1
  · exact plays_big w a0 A1 len1 cap1 a2 hl
  · exact plays_go w a0 (max a0 1).toNat (by omega) A1 len1 cap1 b off xs h hc (by omega) a2
end Go.Proofs.Ytglifomkhcikdaa
