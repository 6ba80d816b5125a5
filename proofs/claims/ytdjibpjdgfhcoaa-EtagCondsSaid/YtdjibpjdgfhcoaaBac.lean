/- EtagBack's walk. -/
import Derived.Test.YtdjibpjdgfhcoaaFst
namespace Go.Proofs.Ytdjibpjdgfhcoaa
open Go.RowKit
set_option linter.unusedVariables false
theorem prs_true {s : ByteArray} {p : Int} (h : prs s = (p, true)) : shw p = s ∧ 1 ≤ p ∧ p ≤ 9223372036854775807 := by
  unfold prs at h
  split at h
  · injection h with _ h; cases h
  · split at h
    · injection h with _ h; cases h
    · next v e =>
      split at h
      · injection h with _ h; cases h
      · next hn =>
        injection h with h _
        subst h
        have := rds_rng _ _ e
        have h1 : ¬ v < 1 := fun x => hn (.inl x)
        exact ⟨Classical.not_not.1 fun x => hn (.inr x), by omega, by omega⟩
theorem prs_false {s : ByteArray} {p : Int} (h : prs s = (p, false)) : p = 0 := by
  unfold prs at h
  split at h
  · injection h with h _; exact h.symm
  · split at h
    · injection h with h _; exact h.symm
    · split at h
      · injection h with h _; exact h.symm
      · injection h with _ h; cases h
theorem shw_data {v : Int} (h : 1 ≤ v) : (shw v).data.toList = shL v.toNat := by
  unfold shw
  rw [if_neg (by omega)]
theorem shw_len {v : Int} (h : 1 ≤ v) (h2 : v ≤ 9223372036854775807) : 4 ≤ (shw v).size := by
  rw [Lib.size_eq, shw_data h, shL_len]
  have := digs_pos v.toNat (by omega) (by omega)
  omega
theorem prs_shw {v : Int} (h : 1 ≤ v) (h2 : v ≤ 9223372036854775807) : prs (shw v) = (v, true) := by
  have h4 := shw_len h h2
  refine prs_ok (by omega) ?_ (by omega) rfl
  rw [shw_data h, mid_sh, rds_digs _ (by omega)]
  congr 1
  omega
theorem shw_inj {v u : Int} (h : 1 ≤ v) (h2 : v ≤ 9223372036854775807) (hu : u ≤ 9223372036854775807) (e : shw u = shw v) : u = v := by
  rcases Int.lt_or_le u 1 with hl | hl
  · rw [shw_lt hl] at e
    have := congrArg ByteArray.size e
    have h4 := shw_len h h2
    have e0 : (ByteArray.mk #[]).size = 0 := rfl
    omega
  · have e1 := prs_shw h h2
    rw [← e, prs_shw hl hu] at e1
    injection e1
theorem shw_ends {v : Int} (h : 1 ≤ v) (T : ByteArray) (e : shw v = T) (h0 : 0 < T.size) (h1 : T.size - 1 < T.size) : T[0] = 34 ∧ T[T.size - 1] = 34 := by
  have hd := shw_data h
  rw [e] at hd
  have hl : T.data.toList.length = T.size := (Lib.size_eq T).symm
  have a0 : T.data.toList[0]? = some T[0] := by rw [List.getElem?_eq_getElem (by omega)]; rfl
  have a1 : T.data.toList[T.size - 1]? = some T[T.size - 1] := by rw [List.getElem?_eq_getElem (by omega)]; rfl
  have hsz : T.size = (shL v.toNat).length := by rw [← hl, hd]
  rw [hd] at a0 a1
  constructor
  · have : (shL v.toNat)[0]? = some 34 := rfl
    rw [this] at a0; injection a0 with a0; exact a0.symm
  · have : (shL v.toNat)[(shL v.toNat).length - 1]? = some 34 := by
      unfold shL
      simp
    rw [← hsz] at this
    rw [this] at a1; injection a1 with a1; exact a1.symm
theorem wf_i64' {a : Int} (w : (Lit.int .i64 a).wf = true) : -9223372036854775808 ≤ a ∧ a ≤ 9223372036854775807 := by simpa [Lit.wf, IntKind.min, IntKind.max, IntKind.signed, IntKind.bits] using w
set_option maxRecDepth 100000 in
set_option maxHeartbeats 1600000 in
theorem back_in (v u : Int) (s : ByteArray) (w : World) (v1 : -9223372036854775808 ≤ v) (v2 : v ≤ 9223372036854775807) (u1 : -9223372036854775808 ≤ u) (u2 : u ≤ 9223372036854775807) (hs : s.size ≤ 100) :
    Calls Try.prog 4 #[.int .i64 v, .int .i64 u, .string s] w fun e w' => e = .returned (.bool true) ∧ Below w.heap.size w w' := by
  have C8 := Lib.hid (fun W => parse_any s W (by omega))
  have CV := Lib.hid (fun W => show_any v W v1 v2)
  have CU := Lib.hid (fun W => show_any u W u1 u2)
  obtain ⟨p, q, hp⟩ : ∃ p q, prs s = (p, q) := ⟨_, _, rfl⟩
  simp only [hp] at C8
  have PQ : (q = true ∧ (∀ W, Calls Try.prog 14 #[.int .i64 p] W fun e w' => e = .returned (.string s) ∧ W = w')) ∨ (q = false ∧ p = 0) := by
    cases q
    · exact .inr ⟨rfl, prs_false hp⟩
    · obtain ⟨h1, h2, h3⟩ := prs_true hp
      refine .inl ⟨rfl, fun W => ?_⟩
      have := show_any p W (by omega) h3
      rw [h1] at this
      exact this
  clear hp
  rcases PQ with ⟨rfl, hP⟩ | ⟨rfl, rfl⟩
  all_goals
    try have CP := Lib.hid hP
    try clear hP
    by_cases hv : v < 1
    · have hT := shw_lt hv
      rw [hT] at CV
      clear hT
      go_enter Try.func4, Try.ntmps4
      go_wp2_with fail
      refine (first_any _).mono ?_; rintro _ w1 ⟨rfl, hb1⟩
      have B1 := Lib.hid hb1
      clear hb1
      go_wp2_with fail
      refine (C8.out _).mono ?_; rintro _ w' ⟨rfl, rfl⟩
      try (go_wp2_with fail; refine (CP.out _).mono ?_; rintro _ w' ⟨rfl, rfl⟩)
      go_wp2_with fail
      refine (CV.out _).mono ?_; rintro _ w' ⟨rfl, rfl⟩
      go_wp2
      go_ret
      exact ⟨by first | rfl | (simp; done), B1.out⟩
    · have hv1 : 1 ≤ v := by omega
      have h4 := shw_len hv1 v2
      have hpr := prs_shw hv1 v2
      have hinj : shw u = shw v → u = v := shw_inj hv1 v2 u2
      have hends := shw_ends hv1 (shw v) rfl
      have CT := Lib.hid (fun W => parse_any (shw v) W (by have := shw_size v v2; omega))
      rw [hpr] at CT
      have hsz := shw_size v v2
      by_cases huv : u = v
      · subst huv
        clear hinj hpr
        obtain ⟨T, hT⟩ : ∃ T, T = shw u := ⟨_, rfl⟩
        rw [← hT] at CV CU CT h4 hends hsz
        clear hT
        have g0 : 0 < T.size := by omega
        have g1 : T.size - 1 < T.size := by omega
        obtain ⟨e0, e1⟩ := hends g0 g1
        have b0 : ((T[0].toNat : Int) == 34) = true := by rw [e0]; rfl
        have b1 : ((T[T.size - 1].toNat : Int) == 34) = true := by rw [e1]; rfl
        clear hends e0 e1
        have g2 : (0 : Int) ≤ (T.size : Int) - 1 := by omega
        go_enter Try.func4, Try.ntmps4
        go_wp2_with fail
        refine (first_any _).mono ?_; rintro _ w1 ⟨rfl, hb1⟩
        have B1 := Lib.hid hb1
        clear hb1
        go_wp2_with fail
        refine (C8.out _).mono ?_; rintro _ w' ⟨rfl, rfl⟩
        try (go_wp2_with fail; refine (CP.out _).mono ?_; rintro _ w' ⟨rfl, rfl⟩)
        go_wp2_with fail
        refine (CV.out _).mono ?_; rintro _ w' ⟨rfl, rfl⟩
        go_wp2_with fail
        refine (CT.out _).mono ?_; rintro _ w' ⟨rfl, rfl⟩
        go_wp2_with fail
        refine (CU.out _).mono ?_; rintro _ w' ⟨rfl, rfl⟩
        go_wp2
        go_ret
        exact ⟨by first | rfl | (simp; done), B1.out⟩
      · have k1 : ((shw u).toList == (shw v).toList) = false := ne_str fun e => huv (hinj e)
        have k2 : (v == u) = false := by rw [beq_eq_false_iff_ne]; exact fun e => huv e.symm
        clear hinj hpr huv
        obtain ⟨T, hT⟩ : ∃ T, T = shw v := ⟨_, rfl⟩
        obtain ⟨U, hU⟩ : ∃ U, U = shw u := ⟨_, rfl⟩
        rw [← hT] at CV CT h4 hends hsz k1
        rw [← hU] at CU k1
        clear hT hU
        have g0 : 0 < T.size := by omega
        have g1 : T.size - 1 < T.size := by omega
        obtain ⟨e0, e1⟩ := hends g0 g1
        have b0 : ((T[0].toNat : Int) == 34) = true := by rw [e0]; rfl
        have b1 : ((T[T.size - 1].toNat : Int) == 34) = true := by rw [e1]; rfl
        clear hends e0 e1
        have g2 : (0 : Int) ≤ (T.size : Int) - 1 := by omega
        go_enter Try.func4, Try.ntmps4
        go_wp2_with fail
        refine (first_any _).mono ?_; rintro _ w1 ⟨rfl, hb1⟩
        have B1 := Lib.hid hb1
        clear hb1
        go_wp2_with fail
        refine (C8.out _).mono ?_; rintro _ w' ⟨rfl, rfl⟩
        try (go_wp2_with fail; refine (CP.out _).mono ?_; rintro _ w' ⟨rfl, rfl⟩)
        go_wp2_with fail
        refine (CV.out _).mono ?_; rintro _ w' ⟨rfl, rfl⟩
        go_wp2_with fail
        refine (CT.out _).mono ?_; rintro _ w' ⟨rfl, rfl⟩
        go_wp2_with fail
        refine (CU.out _).mono ?_; rintro _ w' ⟨rfl, rfl⟩
        go_wp2
        go_ret
        exact ⟨by first | rfl | (simp; done), B1.out⟩
theorem etagBack_walk (w : World) (a0 : Int) (w0 : (Lit.int .i64 a0).wf = true) (a1 : Int) (w1 : (Lit.int .i64 a1).wf = true) (a2 : ByteArray) (w2 : a2.size ≤ maxLen) :
    Calls Try.prog 4 #[.int .i64 a0, .int .i64 a1, .string a2] w fun e w' => e = .returned (.bool true) ∧ Below w.heap.size w w' := by
  by_cases h : a2.size ≤ 100
  · exact back_in _ _ _ _ (wf_i64' w0).1 (wf_i64' w0).2 (wf_i64' w1).1 (wf_i64' w1).2 h
  · unfold maxLen at w2
    go_enter Try.func4, Try.ntmps4
    go_wp2_with fail
    refine (first_any _).mono ?_; rintro _ w1 ⟨rfl, hb1⟩
    have B1 := Lib.hid hb1
    clear hb1
    go_wp2_with fail
    refine (first_any _).mono ?_; rintro _ w3 ⟨rfl, hb3⟩
    have B3 : Hid (Below w.heap.size w w3) := B1.out.trans (hb3.mono B1.out.size)
    clear hb3
    go_wp2
    go_ret
    exact ⟨rfl, B3.out⟩
end Go.Proofs.Ytdjibpjdgfhcoaa
