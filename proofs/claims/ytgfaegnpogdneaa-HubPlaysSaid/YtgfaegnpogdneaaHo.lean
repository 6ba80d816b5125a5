/- HubOnce: its walk. -/
import Derived.Test.YtgfaegnpogdneaaHv
namespace Go.Proofs.Ytgfaegnpogdneaa
open Go.RowKit Go.Maps
open Go.ChangeShapes Go.ChangeAt
set_option linter.unusedVariables false
set_option linter.unusedSimpArgs false
set_option maxRecDepth 100000
section
variable {w0 w w' : World} {R b1 b2 n : Nat} {Z : List Slp}
theorem Hw.one (h : Hw w0 w R b1 b2 n Z) : (Z.map Slp.who).Nodup := by
  obtain ⟨D1, D2, h1, _⟩ := h
  exact h1.one
theorem Hw.zn (h : Hw w0 w R b1 b2 n Z) : Z.length ≤ n := by
  obtain ⟨D1, D2, h1, _⟩ := h
  exact h1.zn
theorem wkF_len (Z : List Slp) (l : List Int) : (wkF Z l).length = Z.length := by
  have := congrArg List.length (wkF_who l Z)
  simpa using this
theorem look_last {Z : List Slp} {x p : Int} (h : look x Z = none) : look x (Z ++ [⟨x, p, false⟩]) = some ⟨x, p, false⟩ := by
  rw [look_append, h]
  show (none : Option Slp).or (if x = x then _ else none) = _
  rw [if_pos rfl]; rfl
theorem woken_last {Z : List Slp} {x p : Int} (h : look x Z = none) : wokenB (Z ++ [⟨x, p, false⟩]) x = false := by unfold wokenB; rw [look_last h]
theorem woken_none {Z : List Slp} {x : Int} (h : look x Z = none) : wokenB Z x = false := by unfold wokenB; rw [h]
theorem at_last (Z : List Slp) (x p : Int) : atL (Z ++ [⟨x, p, false⟩]) p = atL Z p ++ [x] := by
  rw [atL_append]
  show (if p = p then _ else _) = _
  rw [if_pos rfl]
theorem look_woke {Z : List Slp} {x p : Int} (h : look x Z = none) : look x (wkF (Z ++ [⟨x, p, false⟩]) (atL (Z ++ [⟨x, p, false⟩]) p)) = some ⟨x, p, true⟩ := by
  rw [wkF_look, look_last h, at_last]
  simp
end
set_option maxHeartbeats 8000000 in
theorem once_in (w : World) (A : Option Addr) (len cap blk off : Nat) (xs : Nat → Int × Int × Int) (hl : len ≤ cap) (hm : cap ≤ maxLen) (hlen : len ≤ 100) (hA : Acts w A len blk off xs) (who place : Int) (hw : wf who) (hp : wf place) :
    Calls Try.prog 5 #[.slice A len cap, .int .i64 who, .int .i64 place] w fun e w' => e = .returned (.bool true) ∧ Below w.heap.size w w' := by
  have HA := Lib.hid hA
  have HWX := Lib.hid hw
  have HWP := Lib.hid hp
  have hl2 : ¬ (len : Int) > 100 := by omega
  have HMC := Lib.hid hm
  clear hA hw hp hm
  go_enter Try.func5, Try.ntmps5
  go_wp2_with fail
  refine (first_any _).mono ?_
  rintro _ w1 ⟨rfl, hb⟩
  have HB1 := Lib.hid hb
  clear hb
  go_wp2_with fail
  refine (made_any _ A len cap blk off xs hl HMC.out hlen (HA.out.keep HB1.out)).mono ?_
  rintro _ w2 ⟨R, b1, b2, Z, rfl, h1, _⟩
  have H2 := Lib.hid h1
  clear h1
  obtain ⟨m, hm⟩ : ∃ m, (delL Z who).length = m := ⟨_, rfl⟩
  have HM1 := Lib.hid hm
  have HN1 := Lib.hid (look_del who Z)
  have hm100 : (m : Int) ≤ 100 := by
    have h1 : (delL Z who).length ≤ Z.length := List.length_filter_le _ _
    have := H2.out.zn
    omega
  by_cases hs : (look who Z).isSome = true
  · have hzl : Z.length = m + 1 := by rw [← delL_len H2.out.one hs, hm]
    have hws : IntKind.i64.wrap (((m + 1 : Nat) : Int) - 1) = (m : Int) := by rw [IntWalk.i64_in _ (by omega)]; omega
    have hws2 : IntKind.i64.wrap ((m : Int) + 1 - 1) = (m : Int) := by rw [IntWalk.i64_in _ (by omega)]; omega
    clear hm
    go_wp2_with fail
    refine (hw_len H2.out (m + 1) hzl).mono ?_
    rintro _ x1 ⟨rfl, hw⟩
    replace hw := hw.symm
    subst hw
    go_wp2_with fail
    refine (hw_rem H2.out (by omega) who HWX.out hs).mono ?_
    rintro _ w3 ⟨rfl, h1⟩
    have H3 := Lib.hid h1
    clear h1
    generalize delL Z who = Z1 at H3 HN1 HM1
    go_wp2_with fail
    refine (hw_remno H3.out who HWX.out HN1.out).mono ?_
    rintro _ w4 ⟨rfl, h1⟩
    have H4 := Lib.hid h1
    clear h1
    go_wp2_with fail
    refine (hw_woken H4.out who HWX.out false (woken_none HN1.out)).mono ?_
    rintro _ x1 ⟨rfl, hw⟩
    replace hw := hw.symm
    subst hw
    go_wp2_with fail
    refine (hw_len H4.out m HM1.out).mono ?_
    rintro _ x1 ⟨rfl, hw⟩
    replace hw := hw.symm
    subst hw
    go_wp2_with fail
    refine (hw_yes H4.out (by omega) who place HWX.out HWP.out HN1.out).mono ?_
    rintro _ w5 ⟨rfl, h1⟩
    have H5 := Lib.hid h1
    clear h1
    go_wp2_with fail
    refine (hw_woken H5.out who HWX.out false (woken_last HN1.out)).mono ?_
    rintro _ x1 ⟨rfl, hw⟩
    replace hw := hw.symm
    subst hw
    go_wp2_with fail
    refine (hw_no H5.out who place HWX.out (by rw [look_last HN1.out]; rfl)).mono ?_
    rintro _ w6 ⟨rfl, h1⟩
    have H6 := Lib.hid (H5.out.kept h1)
    clear h1
    go_wp2_with fail
    refine (hw_len H6.out (m + 1) (by rw [List.length_append, HM1.out]; rfl)).mono ?_
    rintro _ x1 ⟨rfl, hw⟩
    replace hw := hw.symm
    subst hw
    go_wp2_with fail
    refine (hw_at H6.out (by omega) place HWP.out _ (at_last Z1 who place)).mono ?_
    rintro _ w7 ⟨V, rfl, h1, h2⟩
    have H7 := Lib.hid (H6.out.kept h2)
    obtain ⟨q, hq⟩ : ∃ q, (atL Z1 place).length = q := ⟨_, rfl⟩
    have hq1 : (atL Z1 place ++ [who]).length = q + 1 := by rw [List.length_append, hq]; rfl
    rw [hq1] at h1
    have hq100 : (q : Int) ≤ 1000 := by have := atL_len Z1 place; have := H3.out.zn; omega
    obtain ⟨ga, ca, rfl, e1, e2, e3, _, e4⟩ := row_slice h1 (by omega)
    have ce : w7.cell? ⟨ga, q, none⟩ = some (.int .i64 who) := (e4 q _ (by unfold ivs; rw [List.getElem?_map, List.getElem?_append_right (by omega), hq, Nat.sub_self]; rfl)).1
    have hi1 : IntKind.i64.wrap ((q : Int) + 1 - 1) = (q : Int) := by rw [IntWalk.i64_in _ (by omega)]; omega
    have hi2 : IntKind.i64.wrap (q : Int) = (q : Int) := IntWalk.i64_in _ (by omega)
    have hi3 : (0 : Int) ≤ (q : Int) := by omega
    clear h1 h2 hq hq1 e1 e2 e3 e4
    go_wp2_with fail
    refine (hw_wake H7.out (by omega) place HWP.out _ rfl).mono ?_
    rintro _ w8 ⟨V8, rfl, h1, _⟩
    have H8 := Lib.hid h1
    clear h1
    go_wp2_with fail
    refine (hw_woken H8.out who HWX.out true (by unfold wokenB; rw [look_woke HN1.out])).mono ?_
    rintro _ x1 ⟨rfl, hw⟩
    replace hw := hw.symm
    subst hw
    go_wp2_with fail
    refine (hw_no H8.out who place HWX.out (by rw [look_woke HN1.out]; rfl)).mono ?_
    rintro _ w9 ⟨rfl, h1⟩
    have H9 := Lib.hid (H8.out.kept h1)
    clear h1
    go_wp2_with fail
    refine (hw_rem H9.out (by omega) who HWX.out (by rw [look_woke HN1.out]; rfl)).mono ?_
    rintro _ w10 ⟨rfl, h1⟩
    have H10 := Lib.hid h1
    clear h1
    go_wp2_with fail
    refine (hw_yes H10.out (by omega) who place HWX.out HWP.out (look_del _ _)).mono ?_
    rintro _ w11 ⟨rfl, h1⟩
    have H11 := Lib.hid h1
    clear h1
    go_wp2_with fail
    refine (hw_woken H11.out who HWX.out false (woken_last (look_del _ _))).mono ?_
    rintro _ x1 ⟨rfl, hw⟩
    replace hw := hw.symm
    subst hw
    go_wp2_with fail
    refine (hw_len H11.out (m + 1) (by have := delL_len H9.out.one (by rw [look_woke HN1.out]; rfl); rw [wkF_len, List.length_append, HM1.out] at this; rw [List.length_append]; simp at this ⊢; omega)).mono ?_
    rintro _ x1 ⟨rfl, hw⟩
    replace hw := hw.symm
    subst hw
    go_wp2
    go_ret
    exact ⟨rfl, HB1.out.trans (H11.out.bel.mono HB1.out.size)⟩
  · have hs : look who Z = none := by
      cases h : look who Z with
      | none => rfl
      | some s => rw [h] at hs; exact absurd rfl hs
    have hde : delL Z who = Z := List.filter_eq_self.2 (fun s h => by have := look_none hs s h; simpa using this)
    have HDE := Lib.hid hde.symm
    have hzl : Z.length = m := by rw [← hm, hde]
    clear hm hde
    go_wp2_with fail
    refine (hw_len H2.out m hzl).mono ?_
    rintro _ x1 ⟨rfl, hw⟩
    replace hw := hw.symm
    subst hw
    go_wp2_with fail
    refine (hw_remno H2.out who HWX.out hs).mono ?_
    rintro _ w3 ⟨rfl, h1⟩
    have H3 := Lib.hid (show Hw w1 w3 R b1 b2 len (delL Z who) from HDE.out ▸ h1)
    clear h1
    generalize delL Z who = Z1 at H3 HN1 HM1
    go_wp2_with fail
    refine (hw_remno H3.out who HWX.out HN1.out).mono ?_
    rintro _ w4 ⟨rfl, h1⟩
    have H4 := Lib.hid h1
    clear h1
    go_wp2_with fail
    refine (hw_woken H4.out who HWX.out false (woken_none HN1.out)).mono ?_
    rintro _ x1 ⟨rfl, hw⟩
    replace hw := hw.symm
    subst hw
    go_wp2_with fail
    refine (hw_len H4.out m HM1.out).mono ?_
    rintro _ x1 ⟨rfl, hw⟩
    replace hw := hw.symm
    subst hw
    go_wp2_with fail
    refine (hw_yes H4.out (by omega) who place HWX.out HWP.out HN1.out).mono ?_
    rintro _ w5 ⟨rfl, h1⟩
    have H5 := Lib.hid h1
    clear h1
    go_wp2_with fail
    refine (hw_woken H5.out who HWX.out false (woken_last HN1.out)).mono ?_
    rintro _ x1 ⟨rfl, hw⟩
    replace hw := hw.symm
    subst hw
    go_wp2_with fail
    refine (hw_no H5.out who place HWX.out (by rw [look_last HN1.out]; rfl)).mono ?_
    rintro _ w6 ⟨rfl, h1⟩
    have H6 := Lib.hid (H5.out.kept h1)
    clear h1
    go_wp2_with fail
    refine (hw_len H6.out (m + 1) (by rw [List.length_append, HM1.out]; rfl)).mono ?_
    rintro _ x1 ⟨rfl, hw⟩
    replace hw := hw.symm
    subst hw
    go_wp2_with fail
    refine (hw_at H6.out (by omega) place HWP.out _ (at_last Z1 who place)).mono ?_
    rintro _ w7 ⟨V, rfl, h1, h2⟩
    have H7 := Lib.hid (H6.out.kept h2)
    obtain ⟨q, hq⟩ : ∃ q, (atL Z1 place).length = q := ⟨_, rfl⟩
    have hq1 : (atL Z1 place ++ [who]).length = q + 1 := by rw [List.length_append, hq]; rfl
    rw [hq1] at h1
    have hq100 : (q : Int) ≤ 1000 := by have := atL_len Z1 place; have := H3.out.zn; omega
    obtain ⟨ga, ca, rfl, e1, e2, e3, _, e4⟩ := row_slice h1 (by omega)
    have ce : w7.cell? ⟨ga, q, none⟩ = some (.int .i64 who) := (e4 q _ (by unfold ivs; rw [List.getElem?_map, List.getElem?_append_right (by omega), hq, Nat.sub_self]; rfl)).1
    have hi1 : IntKind.i64.wrap ((q : Int) + 1 - 1) = (q : Int) := by rw [IntWalk.i64_in _ (by omega)]; omega
    have hi2 : IntKind.i64.wrap (q : Int) = (q : Int) := IntWalk.i64_in _ (by omega)
    have hi3 : (0 : Int) ≤ (q : Int) := by omega
    clear h1 h2 hq hq1 e1 e2 e3 e4
    go_wp2_with fail
    refine (hw_wake H7.out (by omega) place HWP.out _ rfl).mono ?_
    rintro _ w8 ⟨V8, rfl, h1, _⟩
    have H8 := Lib.hid h1
    clear h1
    go_wp2_with fail
    refine (hw_woken H8.out who HWX.out true (by unfold wokenB; rw [look_woke HN1.out])).mono ?_
    rintro _ x1 ⟨rfl, hw⟩
    replace hw := hw.symm
    subst hw
    go_wp2_with fail
    refine (hw_no H8.out who place HWX.out (by rw [look_woke HN1.out]; rfl)).mono ?_
    rintro _ w9 ⟨rfl, h1⟩
    have H9 := Lib.hid (H8.out.kept h1)
    clear h1
    go_wp2_with fail
    refine (hw_rem H9.out (by omega) who HWX.out (by rw [look_woke HN1.out]; rfl)).mono ?_
    rintro _ w10 ⟨rfl, h1⟩
    have H10 := Lib.hid h1
    clear h1
    go_wp2_with fail
    refine (hw_yes H10.out (by omega) who place HWX.out HWP.out (look_del _ _)).mono ?_
    rintro _ w11 ⟨rfl, h1⟩
    have H11 := Lib.hid h1
    clear h1
    go_wp2_with fail
    refine (hw_woken H11.out who HWX.out false (woken_last (look_del _ _))).mono ?_
    rintro _ x1 ⟨rfl, hw⟩
    replace hw := hw.symm
    subst hw
    go_wp2_with fail
    refine (hw_len H11.out (m + 1) (by have := delL_len H9.out.one (by rw [look_woke HN1.out]; rfl); rw [wkF_len, List.length_append, HM1.out] at this; rw [List.length_append]; simp at this ⊢; omega)).mono ?_
    rintro _ x1 ⟨rfl, hw⟩
    replace hw := hw.symm
    subst hw
    go_wp2
    go_ret
    exact ⟨rfl, HB1.out.trans (H11.out.bel.mono HB1.out.size)⟩
theorem once_big (w : World) (A : Option Addr) (len cap : Nat) (who place : Int) (h : 100 < len) : Calls Try.prog 5 #[.slice A len cap, .int .i64 who, .int .i64 place] w fun e w' => e = .returned (.bool true) ∧ Below w.heap.size w w' := by
  have hl2 : (len : Int) > 100 := by omega
  go_enter Try.func5, Try.ntmps5
  go_wp2_with fail
  refine (first_any _).mono ?_
  rintro _ w1 ⟨rfl, hb⟩
  have HB1 := Lib.hid hb
  clear hb
  go_wp2_with fail
  refine (first_any _).mono ?_
  rintro _ w2 ⟨rfl, hb⟩
  have HB2 := Lib.hid hb
  clear hb
  go_wp2
  go_ret
  exact ⟨rfl, HB1.out.trans (HB2.out.mono HB1.out.size)⟩
theorem hubOnce_walk (w : World) (A0 : Option Addr) (len0 cap0 : Nat) (S0 : Sh.ok w (Sh.slice 3 (Sh.agg 3 [(0, 1, (Sh.int .i64)), (1, 1, (Sh.int .i64)), (2, 1, (Sh.int .i64))])) [.slice A0 len0 cap0]) (a1 : Int) (w1 : (Lit.int .i64 a1).wf = true) (a2 : Int) (w2 : (Lit.int .i64 a2).wf = true) :
    Calls Try.prog 5 #[.slice A0 len0 cap0, .int .i64 a1, .int .i64 a2] w fun e w' => e = .returned (.bool true) ∧ Below w.heap.size w w' := by
  obtain ⟨b, off, xs, hl, hm, hA⟩ := acts_of S0
  by_cases h : 100 < len0
  · exact once_big w A0 len0 cap0 a1 a2 h
  · exact once_in w A0 len0 cap0 b off xs hl hm (by omega) hA a1 a2 w1 w2
end Go.Proofs.Ytgfaegnpogdneaa
