/- QuotaPlays' walk. -/
import Derived.Test.YtdojdebelmfnhaaQuo7
import Derived.Deep.RegionWith
import Derived.Test.YtdojdebelmfnhaaQuo8
namespace Go.Proofs.Ytdojdebelmfnhaa
open Go.RowKit
set_option linter.unusedVariables false
set_option maxHeartbeats 400000 in
theorem same_any (g r : Nat) (a b c d e f : Int) (w : World) (h : B6 w g 45 a b c d e f) (hr : B6 w r 35 a b c d e f) (hf : Fits a b c d e f) :
    Calls Try.prog 21 #[.pointer (some ⟨g, 0, none⟩), .pointer (some ⟨r, 0, none⟩)] w fun x w' => x = .returned (.bool true) ∧ ∃ n, w' = w.drewN n := by
  have h4 := hr.c4
  have h5 := hr.c5
  have HB := Lib.hid h
  have HR := Lib.hid hr
  have HF := Lib.hid hf
  clear h hr hf
  go_enter Try.func21, Try.ntmps21
  go_wp2_with fail
  go_quiet ((first | (go_at_call 12; exact Calls.quiet_of_same ((cols_any g _ _ _ _ _ _ _ (HB.out.drewN _)).mono fun _ _ ⟨h1, h2⟩ => ⟨h1, h2.symm⟩)) | (go_at_call 13; exact Calls.quiet_of_same ((bytes_any g _ _ _ _ _ _ _ (HB.out.drewN _)).mono fun _ _ ⟨h1, h2⟩ => ⟨h1, h2.symm⟩)) | (go_at_call 14; exact Calls.quiet_of (room_any g _ _ _ _ _ _ _ (HB.out.drewN _) HF.out)) | (go_at_call 23; exact Calls.quiet_of (rroom_any r _ _ _ _ _ _ _ (HR.out.drewN _) HF.out))))
  go_wp2
  go_ret
  exact ⟨rfl, _, rfl⟩

/-- The budget (block g), the one of the document (block r), alike, and the quota as it was handed in; nothing that was has turned. -/
structure St2 (w wr : World) (g r : Nat) (a b c d e f e2 f2 : Int) : Prop where
  bud : B6 wr g 45 a b c d e f
  ref : B6 wr r 35 a b c d e2 f2
  bel : Below w.heap.size w wr
  ge : w.heap.size < g
  gr : g < r
theorem St2.real {w wr w' : World} {g r : Nat} {a b c d e f e2 f2 e' f' : Int} (h : St2 w wr g r a b c d e f e2 f2) (hB : B6 w' g 45 a b c d e' f') (hg : wr.grownBy w' (some g)) : St2 w w' g r a b c d e' f' e2 f2 :=
  ⟨hB, Blk.grown h.ref hg (by intro e; injection e with e; have := h.gr; omega), Ytdojdebelmfnhaa.bel h.bel hg (Nat.le_of_lt h.ge), h.ge, h.gr⟩
theorem St2.refd {w wr w' : World} {g r : Nat} {a b c d e f e2 f2 e' f' : Int} (h : St2 w wr g r a b c d e f e2 f2) (hB : B6 w' r 35 a b c d e' f') (hg : wr.grownBy w' (some r)) : St2 w w' g r a b c d e f e' f' :=
  ⟨Blk.grown h.bud hg (by intro e; injection e with e; have := h.gr; omega), hB, Ytdojdebelmfnhaa.bel h.bel hg (by have := h.gr; have := h.ge; omega), h.ge, h.gr⟩
theorem St2.drewN {w wr : World} {g r : Nat} {a b c d e f e2 f2 : Int} (h : St2 w wr g r a b c d e f e2 f2) (n : Nat) : St2 w (wr.drewN n) g r a b c d e f e2 f2 :=
  ⟨h.bud.drewN n, h.ref.drewN n, below_drewN h.bel n, h.ge, h.gr⟩
theorem St2.drew {w wr : World} {g r : Nat} {a b c d e f e2 f2 : Int} (h : St2 w wr g r a b c d e f e2 f2) : St2 w wr.drew g r a b c d e f e2 f2 :=
  ⟨h.bud.drew, h.ref.drew, h.bel.drew, h.ge, h.gr⟩

theorem rclose_any (g : Nat) (a b c d e f n : Int) (w : World) (h : B6 w g 35 a b c d e f) (hf : Fits a b c d e f) (hn : -9223372036854775808 ≤ n ∧ n ≤ 9223372036854775807) :
    Calls Try.prog 18 #[.pointer (some ⟨g, 0, none⟩), .int .i64 n] w fun x w' => x = .returned (.tuple #[]) ∧ B6 w' g 35 a b c d (max (e - 1) 0) (qClose f n) ∧ w.grownBy w' (some g) := by
  by_cases hp : 0 < n
  · exact rclose_pos g a b c d e f n w h hf hn hp
  · exact rclose_neg g a b c d e f n w h hf (by omega)

set_option maxRecDepth 100000 in
set_option maxHeartbeats 1600000 in
theorem plays_in (a b c d : Int) (w : World) (h : okq a b c d = true) (A : Option Addr) (len cap blk off : Nat) (xs : Nat → Int × Int) (hl : len ≤ cap) (hm : cap ≤ maxLen) (hlen : len ≤ 100) (hA : Acts w A len blk off xs) :
    Calls Try.prog 4 #[.agg #[.int .i64 a, .int .i64 b, .int .i64 c, .int .i64 d], .slice A len cap] w fun e w' => e = .returned (.bool true) ∧ Below w.heap.size w w' := by
  have HE := Lib.hid (erq_ok h)
  have HH := Lib.hid h
  have HF := Lib.hid (fits0 h)
  have HA := Lib.hid hA
  have hbnd : 1 ≤ a ∧ a ≤ 8 ∧ 1 ≤ c ∧ c ≤ 1048576 := by rw [okq_iff] at h; omega
  obtain ⟨ha1, ha2, hbnd1, hbnd2⟩ := hbnd
  clear h hA
  unfold maxLen at hm
  go_enter Try.func4, Try.ntmps4
  go_wp2_with fail
  refine (first_any _).mono ?_; rintro y w1 ⟨rfl, hb1⟩
  obtain ⟨hc1, hf1⟩ := bcell hb1
  have hz1 : w.heap.size < w1.heap.size := by have := hb1.size; simp only [World.size_alloc] at this; omega
  go_wp2_with fail
  refine (checkQuota_any _ _ _ _ _).mono ?_; rintro y w2 ⟨rfl, hb2⟩
  rw [HE.out]
  have hz2 : w.heap.size < w2.heap.size := by have := hb2.size; omega
  obtain ⟨hc2, hf2⟩ := bcell hb2
  go_wp2_with fail
  refine (new_yes _ _ _ _ _ HH.out).mono ?_; rintro y w3 ⟨g, hg, rfl, hB3, hb3⟩
  have hX3 : Blk w3 w.heap.size 23 #[.int .i64 a, .int .i64 b, .int .i64 c, .int .i64 d] :=
    (((Blk.new w 23 _).below hb1 (by simp)).below hb2 hz1).below hb3 hz2
  have h0 : w3.cell? ⟨w.heap.size, 0, none⟩ = some (.int .i64 a) := hX3.cell 0
  have h1 : w3.cell? ⟨w.heap.size, 1, none⟩ = some (.int .i64 b) := hX3.cell 1
  have h2 : w3.cell? ⟨w.heap.size, 2, none⟩ = some (.int .i64 c) := hX3.cell 2
  have h3 : w3.cell? ⟨w.heap.size, 3, none⟩ = some (.int .i64 d) := hX3.cell 3
  have HZ3 : Below w.heap.size w w3 := ((((Below.refl _ _).alloc (Nat.le_refl _) _).trans (hb1.mono (by simp))).trans (hb2.mono (by omega))).trans (hb3.mono (by omega))
  have HS : Hid (St2 w (w3.alloc (.cells #[.int .i64 a, .int .i64 b, .int .i64 c, .int .i64 d, .int .i64 0, .int .i64 0] 35)) g w3.heap.size a b c d 0 0 0 0) :=
    ⟨Blk.alloc hB3 _, Blk.new _ _ _, HZ3.alloc HZ3.size _, by omega, Blk.lt hB3⟩
  obtain ⟨r, hr⟩ : ∃ r, r = w3.heap.size := ⟨_, rfl⟩
  rw [← hr] at HS
  have HR := Lib.hid hr
  clear hr
  clear hc1 hf1 hc2 hf2 hb1 hb2 hb3 hB3 hX3 HZ3
  go_wp2_with fail
  clear h0 h1 h2 h3
  rw [← HR.out]
  go_loopw [8] (fun i wr => ∃ k : Nat, k ≤ len ∧ i = .int .i64 k ∧ ∃ e f, St2 w wr g r a b c d e f e f ∧ Fits a b c d e f) (fun i _ => len - (intOf i).toNat)
  case atStart => exact ⟨0, by omega, rfl, _, _, HS.out, HF.out⟩
  case round =>
    obtain ⟨k, hk, rfl, e, f, hst, hfit⟩ := hrel
    by_cases hlt : k < len
    · obtain ⟨hop, hn, hn1, hn2⟩ := (HA.out.keep hst.bel).2 k hlt
      obtain rfl := ((HA.out.keep hst.bel).1 (by omega)).1
      have hblk := (HA.out.1 (by omega)).2
      obtain ⟨op, hop'⟩ : ∃ op, op = (xs k).1 := ⟨_, rfl⟩
      obtain ⟨n, hn'⟩ : ∃ n, n = (xs k).2 := ⟨_, rfl⟩
      rw [← hop'] at hop
      rw [← hn'] at hn hn1 hn2
      have HN : Hid (w.cell? ⟨blk, off + k * 2 + 1, none⟩ = some (.int .i64 n)) := by rw [hn']; exact (HA.out.2 k hlt).2.1
      clear hop' hn'
      have HST := Lib.hid hst
      have HFI := Lib.hid hfit
      clear hst hfit
      go_wp2_with fail
      · by_cases hea : e < a
        · refine (open_yes g _ _ _ _ _ _ _ HST.out.bud HFI.out hea).mono ?_; rintro y w4 ⟨rfl, hB4, hg4⟩
          have HS4 := Lib.hid (HST.out.real hB4 hg4)
          clear hB4 hg4
          go_wp2_with fail
          refine (ropen_yes r _ _ _ _ _ _ _ HS4.out.ref HFI.out (by omega)).mono ?_; rintro y w5 ⟨rfl, hB5, hg5⟩
          have HS5 := Lib.hid (HS4.out.refd hB5 hg5)
          have HF5 := Lib.hid (fits_open HFI.out (by omega))
          clear hB5 hg5
          go_wp2_with fail
          refine (same_any g r _ _ _ _ _ _ _ HS5.out.bud HS5.out.ref HF5.out).mono ?_; rintro y w6 ⟨rfl, n6, rfl⟩
          go_wp2
          exact ⟨⟨k + 1, by omega, by go_num, _, _, HS5.out.drewN _, HF5.out⟩, by simp [intOf]; omega⟩
        · refine (open_no g _ _ _ _ _ _ _ HST.out.bud HFI.out hea).mono ?_; rintro y w4 ⟨rfl, hB4, hg4⟩
          have HS4 := Lib.hid (HST.out.real hB4 hg4)
          clear hB4 hg4
          go_wp2_with fail
          refine (ropen_no r _ _ _ _ _ _ _ HS4.out.ref HFI.out (by omega)).mono ?_; rintro y w5 ⟨rfl, hB5, hg5⟩
          have HS5 := Lib.hid (HS4.out.refd hB5 hg5)
          have HF5 := HFI
          clear hB5 hg5
          go_wp2_with fail
          refine (same_any g r _ _ _ _ _ _ _ HS5.out.bud HS5.out.ref HF5.out).mono ?_; rintro y w6 ⟨rfl, n6, rfl⟩
          go_wp2
          exact ⟨⟨k + 1, by omega, by go_num, _, _, HS5.out.drewN _, HF5.out⟩, by simp [intOf]; omega⟩
      · refine (close_any g _ _ _ _ _ _ n _ HST.out.bud HFI.out ⟨hn1, hn2⟩).mono ?_; rintro y w4 ⟨rfl, hB4, hg4⟩
        have HS4 := Lib.hid (HST.out.real hB4 hg4)
        have hn4 : w4.cell? ⟨blk, off + k * 2 + 1, none⟩ = some (.int .i64 n) := by rw [HS4.out.bel.cell (p := ⟨blk, off + k * 2 + 1, none⟩) hblk]; exact HN.out
        clear hB4 hg4
        go_wp2_with fail
        refine (rclose_any r _ _ _ _ _ _ n _ HS4.out.ref HFI.out ⟨hn1, hn2⟩).mono ?_; rintro y w5 ⟨rfl, hB5, hg5⟩
        have HS5 := Lib.hid (HS4.out.refd hB5 hg5)
        have HF5 := Lib.hid (fits_close HFI.out n)
        clear hB5 hg5
        go_wp2_with fail
        refine (same_any g r _ _ _ _ _ _ _ HS5.out.bud HS5.out.ref HF5.out).mono ?_; rintro y w6 ⟨rfl, n6, rfl⟩
        go_wp2
        exact ⟨⟨k + 1, by omega, by go_num, _, _, HS5.out.drewN _, HF5.out⟩, by simp [intOf]; omega⟩
      · have hx : ∀ w' : World, Below w.heap.size w w' → w'.cell? ⟨blk, off + k * 2 + 1, none⟩ = some (.int .i64 n) := fun w' hb => by rw [hb.cell (p := ⟨blk, off + k * 2 + 1, none⟩) hblk]; exact HN.out
        have HX := Lib.hid hx
        clear hx
        by_cases hnr : c - f < n
        · go_region_with (first
            | (go_at_call 19; (with_reducible refine (move_no g _ _ _ _ _ _ n _ HST.out.bud.drew HFI.out ⟨hn1, hn2⟩ (by omega)).mono ?_); rintro y w4 ⟨rfl, hB4, hg4⟩
               have HS4 := Lib.hid (HST.out.drew.real hB4 hg4)
               have hn4 := HX.out _ HS4.out.bel
               clear hB4 hg4)
            | (go_at_call 20; (with_reducible refine (rmove_no r _ _ _ _ _ _ n _ HS4.out.ref HFI.out ⟨hn1, hn2⟩ (by omega)).mono ?_); rintro y w5 ⟨rfl, hB5, hg5⟩
               have HS5 := Lib.hid (HS4.out.refd hB5 hg5)
               have HF5 := HFI
               clear hB5 hg5))
          all_goals
            go_wp2_with fail
            refine (same_any g r _ _ _ _ _ _ _ HS5.out.bud HS5.out.ref HF5.out).mono ?_; rintro y w6 ⟨rfl, n6, rfl⟩
            go_wp2
            exact ⟨⟨k + 1, by omega, by go_num, _, _, HS5.out.drewN _, HF5.out⟩, by simp [intOf]; omega⟩
        · go_region_with (first
            | (go_at_call 19; (with_reducible refine (move_yes g _ _ _ _ _ _ n _ HST.out.bud.drew HFI.out ⟨hn1, hn2⟩ (by omega)).mono ?_); rintro y w4 ⟨rfl, hB4, hg4⟩
               have HS4 := Lib.hid (HST.out.drew.real hB4 hg4)
               have hn4 := HX.out _ HS4.out.bel
               clear hB4 hg4)
            | (go_at_call 20; (with_reducible refine (rmove_yes r _ _ _ _ _ _ n _ HS4.out.ref HFI.out ⟨hn1, hn2⟩ (by omega)).mono ?_); rintro y w5 ⟨rfl, hB5, hg5⟩
               have HS5 := Lib.hid (HS4.out.refd hB5 hg5)
               have HF5 := Lib.hid (fits_move HFI.out (n := n) (by omega))
               clear hB5 hg5))
          all_goals
            go_wp2_with fail
            refine (same_any g r _ _ _ _ _ _ _ HS5.out.bud HS5.out.ref HF5.out).mono ?_; rintro y w6 ⟨rfl, n6, rfl⟩
            go_wp2
            exact ⟨⟨k + 1, by omega, by go_num, _, _, HS5.out.drewN _, HF5.out⟩, by simp [intOf]; omega⟩
    · have HST := Lib.hid hst
      clear hst
      go_wp2
      go_ret
      exact ⟨rfl, HST.out.bel⟩

set_option maxHeartbeats 400000 in
theorem plays_big (a b c d : Int) (w : World) (A : Option Addr) (len cap : Nat) (hl : len ≤ cap) (hm : cap ≤ maxLen) (hlen : 100 < len) :
    Calls Try.prog 4 #[.agg #[.int .i64 a, .int .i64 b, .int .i64 c, .int .i64 d], .slice A len cap] w fun e w' => e = .returned (.bool true) ∧ Below w.heap.size w w' := by
  unfold maxLen at hm
  go_enter Try.func4, Try.ntmps4
  go_wp2_with fail
  refine (first_any _).mono ?_; rintro y w1 ⟨rfl, hb1⟩
  have hz1 : w.heap.size < w1.heap.size := by have := hb1.size; simp only [World.size_alloc] at this; omega
  have HZ1 : Hid (Below w.heap.size w w1) := ((Below.refl _ _).alloc (Nat.le_refl _) _).trans (hb1.mono (by simp))
  clear hb1
  go_wp2_with fail
  refine (first_any _).mono ?_; rintro y w3 ⟨rfl, hb3⟩
  have HZ3 : Hid (Below w.heap.size w w3) := HZ1.out.trans (hb3.mono (by omega))
  clear hb3
  go_wp2
  go_ret
  exact ⟨rfl, HZ3.out⟩
set_option maxHeartbeats 400000 in
theorem plays_bad (a b c d : Int) (w : World) (h : okq a b c d = false) (A : Option Addr) (len cap : Nat) (hl : len ≤ cap) (hm : cap ≤ maxLen) (hlen : len ≤ 100) :
    Calls Try.prog 4 #[.agg #[.int .i64 a, .int .i64 b, .int .i64 c, .int .i64 d], .slice A len cap] w fun e w' => e = .returned (.bool true) ∧ Below w.heap.size w w' := by
  have HE := Lib.hid (erq_no h)
  clear h
  unfold maxLen at hm
  go_enter Try.func4, Try.ntmps4
  go_wp2_with fail
  refine (first_any _).mono ?_; rintro y w1 ⟨rfl, hb1⟩
  obtain ⟨hc1, hf1⟩ := bcell hb1
  have hz1 : w.heap.size < w1.heap.size := by have := hb1.size; simp only [World.size_alloc] at this; omega
  have HZ1 : Hid (Below w.heap.size w w1) := ((Below.refl _ _).alloc (Nat.le_refl _) _).trans (hb1.mono (by simp))
  go_wp2_with fail
  refine (checkQuota_any _ _ _ _ _).mono ?_; rintro y w2 ⟨rfl, hb2⟩
  rw [HE.out]
  have hz2 : w.heap.size < w2.heap.size := by have := hb2.size; omega
  have HZ2 : Hid (Below w.heap.size w w2) := HZ1.out.trans (hb2.mono (by omega))
  go_wp2_with fail
  refine (first_any _).mono ?_; rintro y w3 ⟨rfl, hb3⟩
  have HZ3 : Hid (Below w.heap.size w w3) := HZ2.out.trans (hb3.mono (by omega))
  go_wp2
  go_ret
  exact ⟨rfl, HZ3.out⟩

theorem quotaPlays_walk (w : World) (a0 : Int) (w0 : (Lit.int .i64 a0).wf = true) (a1 : Int) (w1 : (Lit.int .i64 a1).wf = true) (a2 : Int) (w2 : (Lit.int .i64 a2).wf = true) (a3 : Int) (w3 : (Lit.int .i64 a3).wf = true) (A4 : Option Addr) (len4 cap4 : Nat) (S4 : Sh.ok w (Sh.slice 2 (Sh.agg 2 [(0, 1, (Sh.int .i64)), (1, 1, (Sh.int .i64))])) [.slice A4 len4 cap4]) :
    Calls Try.prog 4 #[.agg #[.int .i64 a0, .int .i64 a1, .int .i64 a2, .int .i64 a3], .slice A4 len4 cap4] w fun e w' => e = .returned (.bool true) ∧ Below w.heap.size w w' := by
  obtain ⟨b, off, xs, hl, hm, hA⟩ := acts_of S4
  by_cases hlen : 100 < len4
  · exact plays_big _ _ _ _ _ _ _ _ hl hm hlen
  cases h : okq a0 a1 a2 a3
  · exact plays_bad _ _ _ _ _ h _ _ _ hl hm (by omega)
  · exact plays_in _ _ _ _ _ h _ _ _ _ _ _ hl hm (by omega) hA
end Go.Proofs.Ytdojdebelmfnhaa
