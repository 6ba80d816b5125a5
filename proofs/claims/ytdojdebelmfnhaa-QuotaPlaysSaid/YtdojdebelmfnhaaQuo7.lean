/- QuotaOpens' walk. -/
import Derived.Test.YtdojdebelmfnhaaQuo6
namespace Go.Proofs.Ytdojdebelmfnhaa
open Go.RowKit
set_option linter.unusedVariables false
/-- A budget (block g) and the quota as it was handed in (the box), and nothing that was has turned. -/
structure St (w wr : World) (g : Nat) (a b c d e f : Int) : Prop where
  bud : B6 wr g 45 a b c d e f
  fit : Fits a b c d e f
  box : Blk wr w.heap.size 23 #[.int .i64 a, .int .i64 b, .int .i64 c, .int .i64 d]
  bel : Below w.heap.size w wr
  ge : w.heap.size < g
theorem St.step {w wr w' : World} {g : Nat} {a b c d e f e' f' : Int} (h : St w wr g a b c d e f) (hB : B6 w' g 45 a b c d e' f') (hg : wr.grownBy w' (some g)) (hf : Fits a b c d e' f') : St w w' g a b c d e' f' :=
  ⟨hB, hf, h.box.grown hg (by intro e; injection e with e; have := h.ge; omega), Ytdojdebelmfnhaa.bel h.bel hg (Nat.le_of_lt h.ge), h.ge⟩
theorem St.drewN {w wr : World} {g : Nat} {a b c d e f : Int} (h : St w wr g a b c d e f) (n : Nat) : St w (wr.drewN n) g a b c d e f :=
  ⟨h.bud.drewN n, h.fit, h.box.drewN n, below_drewN h.bel n, h.ge⟩
theorem St.b0 {w wr : World} {g : Nat} {a b c d e f : Int} (h : St w wr g a b c d e f) : wr.cell? ⟨w.heap.size, 0, none⟩ = some (.int .i64 a) := h.box.cell 0
theorem St.b2 {w wr : World} {g : Nat} {a b c d e f : Int} (h : St w wr g a b c d e f) : wr.cell? ⟨w.heap.size, 2, none⟩ = some (.int .i64 c) := h.box.cell 2

set_option maxHeartbeats 400000 in
theorem open_noq (g : Nat) (a b c d e f : Int) (w : World) (h : B6 w g 45 a b c d e f) (hf : Fits a b c d e f) (hlt : ¬ e < a) :
    Calls Try.prog 15 #[.pointer (some ⟨g, 0, none⟩)] w fun x w' => x = .returned (.bool false) ∧ ∃ n, w' = w.drewN n := by
  have h0 := h.c0
  have h4 := h.c4
  obtain ⟨f1, f2, f3, f4, f5, f6, f7, f8⟩ := hf
  clear h
  go_enter Try.func15, Try.ntmps15
  go_wp2
  go_quiet (fail)
  go_wp2
  go_ret
  exact ⟨rfl, _, rfl⟩

set_option maxHeartbeats 400000 in
theorem opens_in (a b c d x : Int) (w : World) (h : okq a b c d = true) (hx1 : 0 ≤ x) (hx2 : x ≤ 8) :
    Calls Try.prog 6 #[.agg #[.int .i64 a, .int .i64 b, .int .i64 c, .int .i64 d], .int .i64 x] w fun e w' => e = .returned (.bool true) ∧ Below w.heap.size w w' := by
  have HE := Lib.hid (erq_ok h)
  have HH := Lib.hid h
  have HF := Lib.hid (fits0 h)
  have hbnd : 1 ≤ a ∧ a ≤ 8 ∧ 1 ≤ c ∧ c ≤ 1048576 := by rw [okq_iff] at h; omega
  obtain ⟨ha1, ha2, hbnd1, hbnd2⟩ := hbnd
  clear h
  go_enter Try.func6, Try.ntmps6
  go_wp2_with fail
  refine (first_any _).mono ?_; rintro y w1 ⟨rfl, hb1⟩
  obtain ⟨hc1, hf1⟩ := bcell hb1
  have hz1 : w.heap.size < w1.heap.size := by have := hb1.size; simp only [World.size_alloc] at this; omega
  go_wp2_with fail
  refine (checkQuota_any _ _ _ _ _).mono ?_; rintro y w2 ⟨rfl, hb2⟩
  rw [HE.out]
  have hz2 : w.heap.size < w2.heap.size := by have := hb2.size; omega
  obtain ⟨hc2, hf2⟩ := bcell hb2
  go_wp2_with fail
  refine (new_yes _ _ _ _ _ HH.out).mono ?_; rintro y w3 ⟨g, hg, rfl, hB3, hb3⟩
  have hX3 : Blk w3 w.heap.size 23 #[.int .i64 a, .int .i64 b, .int .i64 c, .int .i64 d] :=
    (((Blk.new w 23 _).below hb1 (by simp)).below hb2 hz1).below hb3 hz2
  have HZ3 : Below w.heap.size w w3 := ((((Below.refl _ _).alloc (Nat.le_refl _) _).trans (hb1.mono (by simp))).trans (hb2.mono (by omega))).trans (hb3.mono (by omega))
  have HS := Lib.hid (St.mk hB3 HF.out hX3 HZ3 (by omega))
  clear hc1 hf1 hc2 hf2 hb1 hb2 hb3 hB3 hX3 HZ3
  go_wp2_with fail
  go_loopw [7] (fun i wr => ∃ k : Nat, (k : Int) ≤ a ∧ i = .int .i64 k ∧ St w wr g a b c d k 0) (fun i _ => (a - intOf i).toNat)
  case atStart => exact ⟨0, by omega, rfl, HS.out⟩
  case round =>
    obtain ⟨k, hk, rfl, hst⟩ := hrel
    have h0 := hst.b0
    have HST := Lib.hid hst
    clear hst
    by_cases hlt : (k : Int) < a
    · go_wp2_with fail
      refine (open_yes g _ _ _ _ _ _ _ HST.out.bud HST.out.fit hlt).mono ?_; rintro y w4 ⟨rfl, hB4, hg4⟩
      have HS4 := Lib.hid (HST.out.step hB4 hg4 (fits_open HST.out.fit hlt))
      clear hB4 hg4
      go_wp2_with fail
      refine (cols_any g _ _ _ _ _ _ _ HS4.out.bud).mono ?_; rintro y w5 ⟨rfl, rfl⟩
      go_wp2
      go_roundw
      case rel => exact ⟨k + 1, by omega, by go_num, HS4.out⟩
      case measure => simp [intOf]; omega
    · have hka : (k : Int) = a := by omega
      have HST1 := Lib.hid (show St w wr g a b c d a 0 by have := HST.out; rw [hka] at this; exact this)
      clear hka HST
      go_wp2_with fail
      refine (open_noq g _ _ _ _ _ _ _ HST1.out.bud HST1.out.fit (by omega)).mono ?_; rintro y w4 ⟨rfl, n4, rfl⟩
      have HS4 := Lib.hid (HST1.out.drewN n4)
      go_wp2_with fail
      go_loopw [8] (fun i wr => ∃ j : Nat, (j : Int) ≤ x ∧ i = .int .i64 j ∧ St w wr g a b c d (max (a - j) 0) 0) (fun i _ => (x - intOf i).toNat)
      case atStart => exact ⟨0, by omega, rfl, by have := HS4.out; rw [show max (a - ((0 : Nat) : Int)) 0 = a by omega]; exact this⟩
      case round =>
        obtain ⟨j, hj, rfl, hst⟩ := hrel
        have h0' := hst.b0
        have HST2 := Lib.hid hst
        clear hst
        by_cases hlt2 : (j : Int) < x
        · go_wp2_with fail
          refine (close_any g _ _ _ _ _ _ 0 _ HST2.out.bud HST2.out.fit (by omega)).mono ?_; rintro y w5 ⟨rfl, hB5, hg5⟩
          have hf5 := fits_close HST2.out.fit 0
          rw [show max (max (a - (j : Int)) 0 - 1) 0 = max (a - ((j + 1 : Nat) : Int)) 0 by omega, show qClose 0 0 = 0 by decide] at hB5 hf5
          have HS5 := Lib.hid (HST2.out.step hB5 hg5 hf5)
          clear hB5 hg5 hf5
          go_wp2
          go_roundw
          case rel => exact ⟨j + 1, by omega, by go_num, HS5.out⟩
          case measure => simp [intOf]; omega
        · have hjx : (j : Int) = x := by omega
          have HST3 := Lib.hid (show St w wr g a b c d (max (a - x) 0) 0 by have := HST2.out; rw [hjx] at this; exact this)
          clear hjx HST2
          go_wp2_with fail
          go_loopw [9] (fun i wr => ∃ l : Nat, (l : Int) ≤ min x a ∧ i = .int .i64 l ∧ St w wr g a b c d (max (a - x) 0 + l) 0) (fun i _ => (a - intOf i).toNat)
          case atStart => exact ⟨0, by omega, rfl, by have := HST3.out; simpa using this⟩
          case round =>
            obtain ⟨l, hl, rfl, hst⟩ := hrel
            have h0'' := hst.b0
            have HST4 := Lib.hid hst
            clear hst
            by_cases hlt3 : (l : Int) < min x a
            · go_wp2_with fail
              all_goals
                refine (open_yes g _ _ _ _ _ _ _ HST4.out.bud HST4.out.fit (by omega)).mono ?_; rintro y w6 ⟨rfl, hB6, hg6⟩
                have hf6 := fits_open HST4.out.fit (by omega)
                rw [show max (a - x) 0 + (l : Int) + 1 = max (a - x) 0 + ((l + 1 : Nat) : Int) by omega] at hB6 hf6
                have HS6 := Lib.hid (HST4.out.step hB6 hg6 hf6)
                clear hB6 hg6 hf6
                go_wp2
                go_roundw
                case rel => exact ⟨l + 1, by omega, by go_num, HS6.out⟩
                case measure => simp [intOf]; omega
            · have hla : max (a - x) 0 + (l : Int) = a := by omega
              have HST5 := Lib.hid (show St w wr g a b c d a 0 by have := HST4.out; rw [hla] at this; exact this)
              clear hla HST4
              have HB5 := Lib.hid HST5.out.bud
              go_wp2_with fail
              all_goals
                go_quiet ((first | (go_at_call 15; exact Calls.quiet_of (open_noq g _ _ _ _ _ _ _ (HB5.out.drewN _) HST5.out.fit (by omega))) | (go_at_call 12; exact Calls.quiet_of_same ((cols_any g _ _ _ _ _ _ _ (HB5.out.drewN _)).mono fun _ _ ⟨h1, h2⟩ => ⟨h1, h2.symm⟩)) | (go_at_call 13; exact Calls.quiet_of_same ((bytes_any g _ _ _ _ _ _ _ (HB5.out.drewN _)).mono fun _ _ ⟨h1, h2⟩ => ⟨h1, h2.symm⟩))))
              all_goals go_wp2
              all_goals go_ret
              all_goals exact ⟨rfl, below_drewN HST5.out.bel _⟩

set_option maxHeartbeats 400000 in
theorem opens_bad (a b c d x : Int) (w : World) (h : okq a b c d = false) :
    Calls Try.prog 6 #[.agg #[.int .i64 a, .int .i64 b, .int .i64 c, .int .i64 d], .int .i64 x] w fun e w' => e = .returned (.bool true) ∧ Below w.heap.size w w' := by
  have HE := Lib.hid (erq_no h)
  clear h
  go_enter Try.func6, Try.ntmps6
  go_wp2_with fail
  refine (first_any _).mono ?_; rintro y w1 ⟨rfl, hb1⟩
  obtain ⟨hc1, hf1⟩ := bcell hb1
  have hz1 : w.heap.size < w1.heap.size := by have := hb1.size; simp only [World.size_alloc] at this; omega
  go_wp2_with fail
  refine (checkQuota_any _ _ _ _ _).mono ?_; rintro y w2 ⟨rfl, hb2⟩
  rw [HE.out]
  have HZ2 : Hid (Below w.heap.size w w2) :=
    ((((Below.refl _ _).alloc (Nat.le_refl _) _).trans (hb1.mono (by simp))).trans (hb2.mono (by omega)))
  have hz2 : w.heap.size < w2.heap.size := by have := hb2.size; omega
  go_wp2_with fail
  refine (first_any _).mono ?_; rintro y w3 ⟨rfl, hb3⟩
  have HZ3 : Hid (Below w.heap.size w w3) := HZ2.out.trans (hb3.mono (by omega))
  go_wp2
  go_ret
  exact ⟨rfl, HZ3.out⟩

set_option maxHeartbeats 400000 in
theorem opens_neg (a b c d x : Int) (w : World) (h : okq a b c d = true) (h1 : x < 0) :
    Calls Try.prog 6 #[.agg #[.int .i64 a, .int .i64 b, .int .i64 c, .int .i64 d], .int .i64 x] w fun e w' => e = .returned (.bool true) ∧ Below w.heap.size w w' := by
  have HE := Lib.hid (erq_ok h)
  clear h
  go_enter Try.func6, Try.ntmps6
  go_wp2_with fail
  refine (first_any _).mono ?_; rintro y w1 ⟨rfl, hb1⟩
  obtain ⟨hc1, hf1⟩ := bcell hb1
  have hz1 : w.heap.size < w1.heap.size := by have := hb1.size; simp only [World.size_alloc] at this; omega
  go_wp2_with fail
  refine (checkQuota_any _ _ _ _ _).mono ?_; rintro y w2 ⟨rfl, hb2⟩
  rw [HE.out]
  have HZ2 : Hid (Below w.heap.size w w2) :=
    ((((Below.refl _ _).alloc (Nat.le_refl _) _).trans (hb1.mono (by simp))).trans (hb2.mono (by omega)))
  have hz2 : w.heap.size < w2.heap.size := by have := hb2.size; omega
  go_wp2_with fail
  refine (first_any _).mono ?_; rintro y w3 ⟨rfl, hb3⟩
  have HZ3 : Hid (Below w.heap.size w w3) := HZ2.out.trans (hb3.mono (by omega))
  go_wp2
  go_ret
  exact ⟨rfl, HZ3.out⟩

set_option maxHeartbeats 400000 in
theorem opens_big (a b c d x : Int) (w : World) (h : okq a b c d = true) (h0 : 0 ≤ x) (h1 : 8 < x) :
    Calls Try.prog 6 #[.agg #[.int .i64 a, .int .i64 b, .int .i64 c, .int .i64 d], .int .i64 x] w fun e w' => e = .returned (.bool true) ∧ Below w.heap.size w w' := by
  have HE := Lib.hid (erq_ok h)
  clear h
  go_enter Try.func6, Try.ntmps6
  go_wp2_with fail
  refine (first_any _).mono ?_; rintro y w1 ⟨rfl, hb1⟩
  obtain ⟨hc1, hf1⟩ := bcell hb1
  have hz1 : w.heap.size < w1.heap.size := by have := hb1.size; simp only [World.size_alloc] at this; omega
  go_wp2_with fail
  refine (checkQuota_any _ _ _ _ _).mono ?_; rintro y w2 ⟨rfl, hb2⟩
  rw [HE.out]
  have HZ2 : Hid (Below w.heap.size w w2) :=
    ((((Below.refl _ _).alloc (Nat.le_refl _) _).trans (hb1.mono (by simp))).trans (hb2.mono (by omega)))
  have hz2 : w.heap.size < w2.heap.size := by have := hb2.size; omega
  go_wp2_with fail
  refine (first_any _).mono ?_; rintro y w3 ⟨rfl, hb3⟩
  have HZ3 : Hid (Below w.heap.size w w3) := HZ2.out.trans (hb3.mono (by omega))
  go_wp2
  go_ret
  exact ⟨rfl, HZ3.out⟩

theorem quotaOpens_walk (w : World) (a0 : Int) (w0 : (Lit.int .i64 a0).wf = true) (a1 : Int) (w1 : (Lit.int .i64 a1).wf = true) (a2 : Int) (w2 : (Lit.int .i64 a2).wf = true) (a3 : Int) (w3 : (Lit.int .i64 a3).wf = true) (a4 : Int) (w4 : (Lit.int .i64 a4).wf = true) :
    Calls Try.prog 6 #[.agg #[.int .i64 a0, .int .i64 a1, .int .i64 a2, .int .i64 a3], .int .i64 a4] w fun e w' => e = .returned (.bool true) ∧ Below w.heap.size w w' := by
  cases h : okq a0 a1 a2 a3
  · exact opens_bad _ _ _ _ _ _ h
  by_cases h1 : a4 < 0
  · exact opens_neg _ _ _ _ _ _ h h1
  by_cases h2 : 8 < a4
  · exact opens_big _ _ _ _ _ _ h (by omega) h2
  · exact opens_in _ _ _ _ _ _ h (by omega) (by omega)
end Go.Proofs.Ytdojdebelmfnhaa
