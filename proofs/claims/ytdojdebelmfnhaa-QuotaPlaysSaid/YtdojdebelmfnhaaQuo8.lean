/- QuotaNever's walk. -/
import Derived.Test.YtdojdebelmfnhaaQuo7
import Derived.Test.YtdojdebelmfnhaaSlice
import Derived.Deep.RegionWith
namespace Go.Proofs.Ytdojdebelmfnhaa
open Go.RowKit
set_option linter.unusedVariables false

/-- Acts that came in: their two numbers, cell by cell. -/
def Acts (w : World) (A : Option Addr) (len b off : Nat) (xs : Nat → Int × Int) : Prop :=
  (0 < len → A = some ⟨b, off, none⟩ ∧ b < w.heap.size) ∧ ∀ i, i < len → w.cell? ⟨b, off + i * 2, none⟩ = some (.int .i64 (xs i).1) ∧ w.cell? ⟨b, off + i * 2 + 1, none⟩ = some (.int .i64 (xs i).2) ∧ (-9223372036854775808 ≤ (xs i).2 ∧ (xs i).2 ≤ 9223372036854775807)
theorem acts_of {w : World} {A : Option Addr} {len cap : Nat} (S : Sh.ok w (Sh.slice 2 (Sh.agg 2 [(0, 1, (Sh.int .i64)), (1, 1, (Sh.int .i64))])) [.slice A len cap]) :
    ∃ b off xs, len ≤ cap ∧ cap ≤ maxLen ∧ Acts w A len b off xs := by
  obtain ⟨b, off, hl, hm, hA, hc⟩ := slice_at S (by omega)
  have h : ∀ i, ∃ x : Int × Int, i < len → w.cell? ⟨b, off + i * 2, none⟩ = some (.int .i64 x.1) ∧ w.cell? ⟨b, off + i * 2 + 1, none⟩ = some (.int .i64 x.2) ∧ (-9223372036854775808 ≤ x.2 ∧ x.2 ≤ 9223372036854775807) := by
    intro i
    by_cases hi : i < len
    · obtain ⟨cs, hlen, hok, hat⟩ := hc i hi
      simp only [Sh.ok, Sh.okAll] at hok
      obtain ⟨_, ⟨x, e1, w1⟩, ⟨y, e2, w2⟩, _⟩ := hok
      have hl2 : ∃ c0 c1, cs = [c0, c1] := by
        match cs, hlen with
        | [c0, c1], _ => exact ⟨c0, c1, rfl⟩
      obtain ⟨c0, c1, rfl⟩ := hl2
      simp at e1 e2
      subst e1 e2
      exact ⟨(x, y), fun _ => ⟨hat 0 (by omega), hat 1 (by omega), wf_i64 w2⟩⟩
    · exact ⟨(0, 0), fun h => absurd h hi⟩
  exact ⟨b, off, fun i => (h i).choose, hl, hm, hA, fun i hi => (h i).choose_spec hi⟩
theorem Acts.keep {w w' : World} {A : Option Addr} {len b off : Nat} {xs : Nat → Int × Int} (h : Acts w A len b off xs) (hb : Below w.heap.size w w') : Acts w' A len b off xs :=
  ⟨fun hl => ⟨(h.1 hl).1, Nat.lt_of_lt_of_le (h.1 hl).2 hb.size⟩, fun i hi => by
    obtain ⟨h1, h2, h3⟩ := h.2 i hi
    have hlt := (h.1 (by omega)).2
    exact ⟨by rw [hb.cell (p := ⟨b, _, none⟩) hlt]; exact h1, by rw [hb.cell (p := ⟨b, _, none⟩) hlt]; exact h2, h3⟩⟩

theorem open_ex (g : Nat) (a b c d e f : Int) (w : World) (h : B6 w g 45 a b c d e f) (hf : Fits a b c d e f) :
    Calls Try.prog 15 #[.pointer (some ⟨g, 0, none⟩)] w fun x w' => ∃ v e' f', x = .returned (.bool v) ∧ B6 w' g 45 a b c d e' f' ∧ w.grownBy w' (some g) ∧ Fits a b c d e' f' := by
  by_cases hlt : e < a
  · exact (open_yes g a b c d e f w h hf hlt).mono fun _ _ ⟨h1, h2, h3⟩ => ⟨_, _, _, h1, h2, h3, fits_open hf hlt⟩
  · exact (open_no g a b c d e f w h hf hlt).mono fun _ _ ⟨h1, h2, h3⟩ => ⟨_, _, _, h1, h2, h3, hf⟩
theorem close_ex (g : Nat) (a b c d e f n : Int) (w : World) (h : B6 w g 45 a b c d e f) (hf : Fits a b c d e f) (hn : -9223372036854775808 ≤ n ∧ n ≤ 9223372036854775807) :
    Calls Try.prog 17 #[.pointer (some ⟨g, 0, none⟩), .int .i64 n] w fun x w' => x = .returned (.tuple #[]) ∧ ∃ e' f', B6 w' g 45 a b c d e' f' ∧ w.grownBy w' (some g) ∧ Fits a b c d e' f' :=
  (close_any g a b c d e f n w h hf hn).mono fun _ _ ⟨h1, h2, h3⟩ => ⟨h1, _, _, h2, h3, fits_close hf n⟩
theorem move_ex (g : Nat) (a b c d e f n : Int) (w : World) (h : B6 w g 45 a b c d e f) (hf : Fits a b c d e f) (hn : -9223372036854775808 ≤ n ∧ n ≤ 9223372036854775807) :
    Calls Try.prog 19 #[.pointer (some ⟨g, 0, none⟩), .int .i64 n] w fun x w' => ∃ v e' f', x = .returned (.bool v) ∧ B6 w' g 45 a b c d e' f' ∧ w.grownBy w' (some g) ∧ Fits a b c d e' f' := by
  by_cases hlt : c - f < n
  · exact (move_no g a b c d e f n w h hf hn hlt).mono fun _ _ ⟨h1, h2, h3⟩ => ⟨_, _, _, h1, h2, h3, hf⟩
  · exact (move_yes g a b c d e f n w h hf hn hlt).mono fun _ _ ⟨h1, h2, h3⟩ => ⟨_, _, _, h1, h2, h3, fits_move hf hlt⟩

set_option maxRecDepth 100000 in
set_option maxHeartbeats 1600000 in
theorem never_in (a b c d : Int) (w : World) (h : okq a b c d = true) (A : Option Addr) (len cap blk off : Nat) (xs : Nat → Int × Int) (hl : len ≤ cap) (hm : cap ≤ maxLen) (hlen : len ≤ 100) (hA : Acts w A len blk off xs) :
    Calls Try.prog 5 #[.agg #[.int .i64 a, .int .i64 b, .int .i64 c, .int .i64 d], .slice A len cap] w fun e w' => e = .returned (.bool true) ∧ Below w.heap.size w w' := by
  have HE := Lib.hid (erq_ok h)
  have HH := Lib.hid h
  have HF := Lib.hid (fits0 h)
  have HA := Lib.hid hA
  have hbnd : 1 ≤ a ∧ a ≤ 8 ∧ 1 ≤ c ∧ c ≤ 1048576 := by rw [okq_iff] at h; omega
  obtain ⟨ha1, ha2, hbnd1, hbnd2⟩ := hbnd
  clear h hA
  unfold maxLen at hm
  go_enter Try.func5, Try.ntmps5
  go_wp2_with fail
  refine (first_any _).mono ?_; rintro y w1 ⟨rfl, hb1⟩
  obtain ⟨hc1, hf1⟩ := bcell hb1
  have hz1 : w.heap.size < w1.heap.size := by have := hb1.size; simp only [World.size_alloc] at this; omega
  go_wp2_with fail
  refine (checkQuota_any _ _ _ _ _).mono ?_; rintro y w2 ⟨rfl, hb2⟩
  rw [HE.out]
  have hz2 : w.heap.size < w2.heap.size := by have := hb2.size; omega
  obtain ⟨hc2, hf2⟩ := bcell hb2
  go_wp2_with fail
  refine (new_yes _ _ _ _ _ HH.out).mono ?_; rintro y w3 ⟨g, hg, rfl, hB3, hb3⟩
  have hX3 : Blk w3 w.heap.size 23 #[.int .i64 a, .int .i64 b, .int .i64 c, .int .i64 d] :=
    (((Blk.new w 23 _).below hb1 (by simp)).below hb2 hz1).below hb3 hz2
  have HZ3 : Below w.heap.size w w3 := ((((Below.refl _ _).alloc (Nat.le_refl _) _).trans (hb1.mono (by simp))).trans (hb2.mono (by omega))).trans (hb3.mono (by omega))
  have HS := Lib.hid (St.mk hB3 HF.out hX3 HZ3 (by omega))
  clear hc1 hf1 hc2 hf2 hb1 hb2 hb3 hB3 hX3 HZ3
  go_wp2_with fail
  go_loopw [7] (fun i wr => ∃ k : Nat, k ≤ len ∧ i = .int .i64 k ∧ ∃ e f, St w wr g a b c d e f) (fun i _ => len - (intOf i).toNat)
  case atStart => exact ⟨0, by omega, rfl, _, _, HS.out⟩
  case round =>
    obtain ⟨k, hk, rfl, e, f, hst⟩ := hrel
    have hst' := hst
    obtain ⟨f1, f2, f3, f4, f5, f6, f7, f8⟩ := hst'.fit
    clear hst'
    by_cases hlt : k < len
    · obtain ⟨hop, hn, hn1, hn2⟩ := (HA.out.keep hst.bel).2 k hlt
      obtain rfl := ((HA.out.keep hst.bel).1 (by omega)).1
      obtain ⟨op, hop'⟩ : ∃ op, op = (xs k).1 := ⟨_, rfl⟩
      obtain ⟨n, hn'⟩ : ∃ n, n = (xs k).2 := ⟨_, rfl⟩
      rw [← hop'] at hop
      rw [← hn'] at hn hn1 hn2
      clear hop' hn'
      have HST := Lib.hid hst
      clear hst
      go_wp2_with fail
      · refine (open_ex g _ _ _ _ _ _ _ HST.out.bud HST.out.fit).mono ?_; rintro y w4 ⟨v, e', f', rfl, hB4, hg4, hf4⟩
        have HS4 := Lib.hid (HST.out.step hB4 hg4 hf4)
        obtain ⟨g1, g2, g3, g4, g5, g6, g7, g8⟩ := hf4
        have h0 := HS4.out.b0
        have h2 := HS4.out.b2
        have HB4 := Lib.hid HS4.out.bud
        clear hB4 hg4
        have d1 : decide (e' < 0) = false := by simp; omega
        have d2 : decide (a < e') = false := by simp; omega
        have d3 : decide (f' < 0) = false := by simp; omega
        have d4 : decide (c < f') = false := by simp; omega
        have d5 : IntKind.i64.wrap (c - f') = c - f' := IntWalk.i64_in _ (by omega)
        go_wp2_with fail
        go_quiet ((first | (go_at_call 12; exact Calls.quiet_of_same ((cols_any g _ _ _ _ _ _ _ (HB4.out.drewN _)).mono fun _ _ ⟨h1, h2⟩ => ⟨h1, h2.symm⟩)) | (go_at_call 13; exact Calls.quiet_of_same ((bytes_any g _ _ _ _ _ _ _ (HB4.out.drewN _)).mono fun _ _ ⟨h1, h2⟩ => ⟨h1, h2.symm⟩)) | (go_at_call 14; exact Calls.quiet_of (room_any g _ _ _ _ _ _ _ (HB4.out.drewN _) HS4.out.fit))))
        go_wp2
        exact ⟨⟨k + 1, by omega, by go_num, _, _, HS4.out.drewN _⟩, by simp [intOf]; omega⟩
      · refine (close_ex g _ _ _ _ _ _ n _ HST.out.bud HST.out.fit ⟨hn1, hn2⟩).mono ?_; rintro y w4 ⟨rfl, e', f', hB4, hg4, hf4⟩
        have HS4 := Lib.hid (HST.out.step hB4 hg4 hf4)
        obtain ⟨g1, g2, g3, g4, g5, g6, g7, g8⟩ := hf4
        have h0 := HS4.out.b0
        have h2 := HS4.out.b2
        have HB4 := Lib.hid HS4.out.bud
        clear hB4 hg4
        have d1 : decide (e' < 0) = false := by simp; omega
        have d2 : decide (a < e') = false := by simp; omega
        have d3 : decide (f' < 0) = false := by simp; omega
        have d4 : decide (c < f') = false := by simp; omega
        have d5 : IntKind.i64.wrap (c - f') = c - f' := IntWalk.i64_in _ (by omega)
        go_wp2_with fail
        go_quiet ((first | (go_at_call 12; exact Calls.quiet_of_same ((cols_any g _ _ _ _ _ _ _ (HB4.out.drewN _)).mono fun _ _ ⟨h1, h2⟩ => ⟨h1, h2.symm⟩)) | (go_at_call 13; exact Calls.quiet_of_same ((bytes_any g _ _ _ _ _ _ _ (HB4.out.drewN _)).mono fun _ _ ⟨h1, h2⟩ => ⟨h1, h2.symm⟩)) | (go_at_call 14; exact Calls.quiet_of (room_any g _ _ _ _ _ _ _ (HB4.out.drewN _) HS4.out.fit))))
        go_wp2
        exact ⟨⟨k + 1, by omega, by go_num, _, _, HS4.out.drewN _⟩, by simp [intOf]; omega⟩
      · refine (move_ex g _ _ _ _ _ _ n _ HST.out.bud HST.out.fit ⟨hn1, hn2⟩).mono ?_; rintro y w4 ⟨v, e', f', rfl, hB4, hg4, hf4⟩
        have HS4 := Lib.hid (HST.out.step hB4 hg4 hf4)
        obtain ⟨g1, g2, g3, g4, g5, g6, g7, g8⟩ := hf4
        have h0 := HS4.out.b0
        have h2 := HS4.out.b2
        have HB4 := Lib.hid HS4.out.bud
        clear hB4 hg4
        have d1 : decide (e' < 0) = false := by simp; omega
        have d2 : decide (a < e') = false := by simp; omega
        have d3 : decide (f' < 0) = false := by simp; omega
        have d4 : decide (c < f') = false := by simp; omega
        have d5 : IntKind.i64.wrap (c - f') = c - f' := IntWalk.i64_in _ (by omega)
        go_wp2_with fail
        go_quiet ((first | (go_at_call 12; exact Calls.quiet_of_same ((cols_any g _ _ _ _ _ _ _ (HB4.out.drewN _)).mono fun _ _ ⟨h1, h2⟩ => ⟨h1, h2.symm⟩)) | (go_at_call 13; exact Calls.quiet_of_same ((bytes_any g _ _ _ _ _ _ _ (HB4.out.drewN _)).mono fun _ _ ⟨h1, h2⟩ => ⟨h1, h2.symm⟩)) | (go_at_call 14; exact Calls.quiet_of (room_any g _ _ _ _ _ _ _ (HB4.out.drewN _) HS4.out.fit))))
        go_wp2
        exact ⟨⟨k + 1, by omega, by go_num, _, _, HS4.out.drewN _⟩, by simp [intOf]; omega⟩
    · have HB := Lib.hid hst.bud
      have h0 := hst.b0
      have h2 := hst.b2
      have HST := Lib.hid hst
      have HM1 : Hid (qMove f (c - f) = c) := by show _ = _; unfold qMove; omega
      have HF2 := Lib.hid (fits_move hst.fit (n := c - f) (by omega))
      rw [HM1.out] at HF2
      clear hst
      go_wp2_with fail
      go_region_with (first
        | (go_at_call 14; (with_reducible refine (room_any g _ _ _ _ _ _ _ HB.out.drew HST.out.fit).mono ?_); rintro y w5 ⟨rfl, n5, rfl⟩)
        | (go_at_call 19; (with_reducible refine (move_yes g _ _ _ _ _ _ (c - f) _ (HB.out.drewN _) HST.out.fit (by omega) (by omega)).mono ?_); rintro y w6 ⟨rfl, hB6, hg6⟩
           rw [HM1.out] at hB6
           have HS6 := Lib.hid ((HST.out.drewN _).step hB6 hg6 HF2.out)
           clear hB6 hg6)
        | (go_at_call 14; (with_reducible refine (room_any g _ _ _ _ _ _ _ HS6.out.bud HS6.out.fit).mono ?_); rintro y w7 ⟨rfl, n7, rfl⟩
           rw [Int.sub_self])
        | (go_at_call 19; (with_reducible refine (move_no g _ _ _ _ _ _ 1 _ (HS6.out.bud.drewN _) HF2.out (by omega) (by omega)).mono ?_); rintro y w8 ⟨rfl, hB8, hg8⟩
           have HS8 := Lib.hid ((HS6.out.drewN _).step hB8 hg8 HF2.out)
           have h82 := HS8.out.b2
           clear hB8 hg8)
        | (go_at_call 13; (with_reducible refine (bytes_any g _ _ _ _ _ _ _ HS8.out.bud).mono ?_); rintro y w9 ⟨rfl, rfl⟩))
      all_goals go_wp2
      all_goals go_ret
      all_goals refine ⟨?_, ?_⟩
      all_goals first | rfl | exact HS8.out.bel | exact HS8.out.bel.drew | exact below_drewN HS8.out.bel _ | (simp; done)

set_option maxHeartbeats 400000 in
theorem never_big (a b c d : Int) (w : World) (A : Option Addr) (len cap : Nat) (hl : len ≤ cap) (hm : cap ≤ maxLen) (hlen : 100 < len) :
    Calls Try.prog 5 #[.agg #[.int .i64 a, .int .i64 b, .int .i64 c, .int .i64 d], .slice A len cap] w fun e w' => e = .returned (.bool true) ∧ Below w.heap.size w w' := by
  unfold maxLen at hm
  go_enter Try.func5, Try.ntmps5
  go_wp2_with fail
  refine (first_any _).mono ?_; rintro y w1 ⟨rfl, hb1⟩
  have hz1 : w.heap.size < w1.heap.size := by have := hb1.size; simp only [World.size_alloc] at this; omega
  have HZ1 : Hid (Below w.heap.size w w1) := ((Below.refl _ _).alloc (Nat.le_refl _) _).trans (hb1.mono (by simp))
  clear hb1
  go_wp2_with fail
  refine (first_any _).mono ?_; rintro y w3 ⟨rfl, hb3⟩
  have HZ3 : Hid (Below w.heap.size w w3) := HZ1.out.trans (hb3.mono (by omega))
  clear hb3
  go_wp2
  go_ret
  exact ⟨rfl, HZ3.out⟩
set_option maxHeartbeats 400000 in
theorem never_bad (a b c d : Int) (w : World) (h : okq a b c d = false) (A : Option Addr) (len cap : Nat) (hl : len ≤ cap) (hm : cap ≤ maxLen) (hlen : len ≤ 100) :
    Calls Try.prog 5 #[.agg #[.int .i64 a, .int .i64 b, .int .i64 c, .int .i64 d], .slice A len cap] w fun e w' => e = .returned (.bool true) ∧ Below w.heap.size w w' := by
  have HE := Lib.hid (erq_no h)
  clear h
  unfold maxLen at hm
  go_enter Try.func5, Try.ntmps5
  go_wp2_with fail
  refine (first_any _).mono ?_; rintro y w1 ⟨rfl, hb1⟩
  obtain ⟨hc1, hf1⟩ := bcell hb1
  have hz1 : w.heap.size < w1.heap.size := by have := hb1.size; simp only [World.size_alloc] at this; omega
  have HZ1 : Hid (Below w.heap.size w w1) := ((Below.refl _ _).alloc (Nat.le_refl _) _).trans (hb1.mono (by simp))
  go_wp2_with fail
  refine (checkQuota_any _ _ _ _ _).mono ?_; rintro y w2 ⟨rfl, hb2⟩
  rw [HE.out]
  have hz2 : w.heap.size < w2.heap.size := by have := hb2.size; omega
  have HZ2 : Hid (Below w.heap.size w w2) := HZ1.out.trans (hb2.mono (by omega))
  go_wp2_with fail
  refine (first_any _).mono ?_; rintro y w3 ⟨rfl, hb3⟩
  have HZ3 : Hid (Below w.heap.size w w3) := HZ2.out.trans (hb3.mono (by omega))
  go_wp2
  go_ret
  exact ⟨rfl, HZ3.out⟩

theorem quotaNever_walk (w : World) (a0 : Int) (w0 : (Lit.int .i64 a0).wf = true) (a1 : Int) (w1 : (Lit.int .i64 a1).wf = true) (a2 : Int) (w2 : (Lit.int .i64 a2).wf = true) (a3 : Int) (w3 : (Lit.int .i64 a3).wf = true) (A4 : Option Addr) (len4 cap4 : Nat) (S4 : Sh.ok w (Sh.slice 2 (Sh.agg 2 [(0, 1, (Sh.int .i64)), (1, 1, (Sh.int .i64))])) [.slice A4 len4 cap4]) :
    Calls Try.prog 5 #[.agg #[.int .i64 a0, .int .i64 a1, .int .i64 a2, .int .i64 a3], .slice A4 len4 cap4] w fun e w' => e = .returned (.bool true) ∧ Below w.heap.size w w' := by
  obtain ⟨b, off, xs, hl, hm, hA⟩ := acts_of S4
  by_cases hlen : 100 < len4
  · exact never_big _ _ _ _ _ _ _ _ hl hm hlen
  cases h : okq a0 a1 a2 a3
  · exact never_bad _ _ _ _ _ h _ _ _ hl hm (by omega)
  · exact never_in _ _ _ _ _ h _ _ _ _ _ _ hl hm (by omega) hA
end Go.Proofs.Ytdojdebelmfnhaa
