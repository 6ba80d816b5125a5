/- Texts of one proof, joined. -/
import Derived.Test.YtphijnkiiokieaaGreatDoorZba
set_option linter.unusedVariables false
set_option linter.unusedSimpArgs false
set_option maxRecDepth 100000
set_option maxHeartbeats 80000000
namespace Go.Proofs.YtphijnkiiokieaaGreatDoor
open Go.RowKit
open Go.Lib hiding intOf
attribute [local go_sem ↓] Go.wp_at_zero Go.wp_at_succ
theorem rcanon_out {cs : Array Value} (hc : cs.size = 3) {R : Ending → World → Prop} {a : Act} {w : World} {g : Nat} (h2 : a.tmps.getD 2 undef = .pointer (some ⟨g, 0, none⟩)) (hd : a.defers = []) (hg : Blk w g 92 cs)
  (hR : R (.returned (.tuple #[.agg cs, a.tmps.getD 3 undef])) w) : bodyPost Tryz.prog Tryz.f103 R .ret a w :=
 bodyPost_ret (Day.results_cell1 (fn := Tryz.f103) rfl a.tmps Tryz.prog w g 92 cs (0, 0) _ h2 hg Tryz.underlying92 (by rw [hc]; rfl)) hd hR
theorem rc_low (k l : Int) (hk : k < 1) (v : ByteArray) (w : World) : Calls Tryz.prog 103 #[fieldV k l v] w fun e w' => e = .returned (canonV k l v) ∧ Below w.heap.size w w' := by
 have HX := Zh (Fx2.new w k l v 0 0 ⟨#[]⟩); have H0 := Zh (show canonV k l v = .tuple #[fieldV 0 0 ⟨#[]⟩, .int .i64 1] by unfold canonV; exact if_pos (.inl (by unfold kindW; rw [if_neg (by omega), if_neg (by omega), if_neg (by omega), if_neg (by omega), if_neg (by omega), if_neg (by omega)]; decide +kernel))); have b0 := HX.out.two.cell 0; have b1 := HX.out.two.cell 1; have b2 := HX.out.two.cell 2; have g0 := HX.out.two.frozen 0; have g1 := HX.out.two.frozen 1; have g2 := HX.out.two.frozen 2
 go_enter Tryz.func103, Tryz.ntmps103
 go_wp2
 (try simp only [Exit.inBlock, Exit.then])
 rw [H0.out]
 exact rcanon_out (cs := #[.int .i64 0, .int .i64 0, .string ⟨#[]⟩]) (g := w.heap.size + 1) rfl rfl rfl HX.out.two ⟨rfl, HX.out.bel⟩
theorem rc_high (k l : Int) (hk : ¬ k < 1) (hk6 : k > 6) (v : ByteArray) (w : World) : Calls Tryz.prog 103 #[fieldV k l v] w fun e w' => e = .returned (canonV k l v) ∧ Below w.heap.size w w' := by
 have HX := Zh (Fx2.new w k l v 0 0 ⟨#[]⟩); have H0 := Zh (show canonV k l v = .tuple #[fieldV 0 0 ⟨#[]⟩, .int .i64 1] by unfold canonV; exact if_pos (.inl (by unfold kindW; rw [if_neg (by omega), if_neg (by omega), if_neg (by omega), if_neg (by omega), if_neg (by omega), if_neg (by omega)]; decide +kernel))); have b0 := HX.out.two.cell 0; have b1 := HX.out.two.cell 1; have b2 := HX.out.two.cell 2; have g0 := HX.out.two.frozen 0; have g1 := HX.out.two.frozen 1; have g2 := HX.out.two.frozen 2
 go_enter Tryz.func103, Tryz.ntmps103
 go_wp2
 (try simp only [Exit.inBlock, Exit.then])
 rw [H0.out]
 exact rcanon_out (cs := #[.int .i64 0, .int .i64 0, .string ⟨#[]⟩]) (g := w.heap.size + 1) rfl rfl rfl HX.out.two ⟨rfl, HX.out.bel⟩
theorem rc_llow (k l : Int) (hk : ¬ k < 1) (hk6 : ¬ k > 6) (hl : l < 0) (v : ByteArray) (w : World) : Calls Tryz.prog 103 #[fieldV k l v] w fun e w' => e = .returned (canonV k l v) ∧ Below w.heap.size w w' := by
 have HX := Zh (Fx2.new w k l v 0 0 ⟨#[]⟩); have H0 := Zh (show canonV k l v = .tuple #[fieldV 0 0 ⟨#[]⟩, .int .i64 1] by unfold canonV; exact if_pos (.inr (by unfold labelledB; rw [if_neg (by omega), if_neg (by omega), if_neg (by omega)]))); have b0 := HX.out.two.cell 0; have b1 := HX.out.two.cell 1; have b2 := HX.out.two.cell 2; have g0 := HX.out.two.frozen 0; have g1 := HX.out.two.frozen 1; have g2 := HX.out.two.frozen 2
 go_enter Tryz.func103, Tryz.ntmps103
 go_wp2
 (try simp only [Exit.inBlock, Exit.then])
 rw [H0.out]
 exact rcanon_out (cs := #[.int .i64 0, .int .i64 0, .string ⟨#[]⟩]) (g := w.heap.size + 1) rfl rfl rfl HX.out.two ⟨rfl, HX.out.bel⟩
theorem rc_lhigh (k l : Int) (hk : ¬ k < 1) (hk6 : ¬ k > 6) (hl : ¬ l < 0) (hl3 : l > 3) (v : ByteArray) (w : World) : Calls Tryz.prog 103 #[fieldV k l v] w fun e w' => e = .returned (canonV k l v) ∧ Below w.heap.size w w' := by
 have HX := Zh (Fx2.new w k l v 0 0 ⟨#[]⟩); have H0 := Zh (show canonV k l v = .tuple #[fieldV 0 0 ⟨#[]⟩, .int .i64 1] by unfold canonV; exact if_pos (.inr (by unfold labelledB; rw [if_neg (by omega), if_neg (by omega), if_neg (by omega)]))); have b0 := HX.out.two.cell 0; have b1 := HX.out.two.cell 1; have b2 := HX.out.two.cell 2; have g0 := HX.out.two.frozen 0; have g1 := HX.out.two.frozen 1; have g2 := HX.out.two.frozen 2
 go_enter Tryz.func103, Tryz.ntmps103
 go_wp2
 (try simp only [Exit.inBlock, Exit.then])
 rw [H0.out]
 exact rcanon_out (cs := #[.int .i64 0, .int .i64 0, .string ⟨#[]⟩]) (g := w.heap.size + 1) rfl rfl rfl HX.out.two ⟨rfl, HX.out.bel⟩
theorem rc_b11  (v : ByteArray) (w : World) : Calls Tryz.prog 103 #[fieldV 1 1 v] w fun e w' => e = .returned (canonV 1 1 v) ∧ Below w.heap.size w w' := by
 have HX := Zh (Fx2.new w 1 1 v 0 0 ⟨#[]⟩); have H0 := Zh (show canonV 1 1 v = .tuple #[fieldV 0 0 ⟨#[]⟩, .int .i64 1] by unfold canonV; exact if_pos (.inr (by decide))); have b0 := HX.out.two.cell 0; have b1 := HX.out.two.cell 1; have b2 := HX.out.two.cell 2; have g0 := HX.out.two.frozen 0; have g1 := HX.out.two.frozen 1; have g2 := HX.out.two.frozen 2
 go_enter Tryz.func103, Tryz.ntmps103
 go_wp2
 (try simp only [Exit.inBlock, Exit.then])
 rw [H0.out]
 exact rcanon_out (cs := #[.int .i64 0, .int .i64 0, .string ⟨#[]⟩]) (g := w.heap.size + 1) rfl rfl rfl HX.out.two ⟨rfl, HX.out.bel⟩
theorem rc_b12  (v : ByteArray) (w : World) : Calls Tryz.prog 103 #[fieldV 1 2 v] w fun e w' => e = .returned (canonV 1 2 v) ∧ Below w.heap.size w w' := by
 have HX := Zh (Fx2.new w 1 2 v 0 0 ⟨#[]⟩); have H0 := Zh (show canonV 1 2 v = .tuple #[fieldV 0 0 ⟨#[]⟩, .int .i64 1] by unfold canonV; exact if_pos (.inr (by decide))); have b0 := HX.out.two.cell 0; have b1 := HX.out.two.cell 1; have b2 := HX.out.two.cell 2; have g0 := HX.out.two.frozen 0; have g1 := HX.out.two.frozen 1; have g2 := HX.out.two.frozen 2
 go_enter Tryz.func103, Tryz.ntmps103
 go_wp2
 (try simp only [Exit.inBlock, Exit.then])
 rw [H0.out]
 exact rcanon_out (cs := #[.int .i64 0, .int .i64 0, .string ⟨#[]⟩]) (g := w.heap.size + 1) rfl rfl rfl HX.out.two ⟨rfl, HX.out.bel⟩
theorem rc_b13  (v : ByteArray) (w : World) : Calls Tryz.prog 103 #[fieldV 1 3 v] w fun e w' => e = .returned (canonV 1 3 v) ∧ Below w.heap.size w w' := by
 have HX := Zh (Fx2.new w 1 3 v 0 0 ⟨#[]⟩); have H0 := Zh (show canonV 1 3 v = .tuple #[fieldV 0 0 ⟨#[]⟩, .int .i64 1] by unfold canonV; exact if_pos (.inr (by decide))); have b0 := HX.out.two.cell 0; have b1 := HX.out.two.cell 1; have b2 := HX.out.two.cell 2; have g0 := HX.out.two.frozen 0; have g1 := HX.out.two.frozen 1; have g2 := HX.out.two.frozen 2
 go_enter Tryz.func103, Tryz.ntmps103
 go_wp2
 (try simp only [Exit.inBlock, Exit.then])
 rw [H0.out]
 exact rcanon_out (cs := #[.int .i64 0, .int .i64 0, .string ⟨#[]⟩]) (g := w.heap.size + 1) rfl rfl rfl HX.out.two ⟨rfl, HX.out.bel⟩
theorem rc_b21  (v : ByteArray) (w : World) : Calls Tryz.prog 103 #[fieldV 2 1 v] w fun e w' => e = .returned (canonV 2 1 v) ∧ Below w.heap.size w w' := by
 have HX := Zh (Fx2.new w 2 1 v 0 0 ⟨#[]⟩); have H0 := Zh (show canonV 2 1 v = .tuple #[fieldV 0 0 ⟨#[]⟩, .int .i64 1] by unfold canonV; exact if_pos (.inr (by decide))); have b0 := HX.out.two.cell 0; have b1 := HX.out.two.cell 1; have b2 := HX.out.two.cell 2; have g0 := HX.out.two.frozen 0; have g1 := HX.out.two.frozen 1; have g2 := HX.out.two.frozen 2
 go_enter Tryz.func103, Tryz.ntmps103
 go_wp2
 (try simp only [Exit.inBlock, Exit.then])
 rw [H0.out]
 exact rcanon_out (cs := #[.int .i64 0, .int .i64 0, .string ⟨#[]⟩]) (g := w.heap.size + 1) rfl rfl rfl HX.out.two ⟨rfl, HX.out.bel⟩
theorem rc_b22  (v : ByteArray) (w : World) : Calls Tryz.prog 103 #[fieldV 2 2 v] w fun e w' => e = .returned (canonV 2 2 v) ∧ Below w.heap.size w w' := by
 have HX := Zh (Fx2.new w 2 2 v 0 0 ⟨#[]⟩); have H0 := Zh (show canonV 2 2 v = .tuple #[fieldV 0 0 ⟨#[]⟩, .int .i64 1] by unfold canonV; exact if_pos (.inr (by decide))); have b0 := HX.out.two.cell 0; have b1 := HX.out.two.cell 1; have b2 := HX.out.two.cell 2; have g0 := HX.out.two.frozen 0; have g1 := HX.out.two.frozen 1; have g2 := HX.out.two.frozen 2
 go_enter Tryz.func103, Tryz.ntmps103
 go_wp2
 (try simp only [Exit.inBlock, Exit.then])
 rw [H0.out]
 exact rcanon_out (cs := #[.int .i64 0, .int .i64 0, .string ⟨#[]⟩]) (g := w.heap.size + 1) rfl rfl rfl HX.out.two ⟨rfl, HX.out.bel⟩
theorem rc_b23  (v : ByteArray) (w : World) : Calls Tryz.prog 103 #[fieldV 2 3 v] w fun e w' => e = .returned (canonV 2 3 v) ∧ Below w.heap.size w w' := by
 have HX := Zh (Fx2.new w 2 3 v 0 0 ⟨#[]⟩); have H0 := Zh (show canonV 2 3 v = .tuple #[fieldV 0 0 ⟨#[]⟩, .int .i64 1] by unfold canonV; exact if_pos (.inr (by decide))); have b0 := HX.out.two.cell 0; have b1 := HX.out.two.cell 1; have b2 := HX.out.two.cell 2; have g0 := HX.out.two.frozen 0; have g1 := HX.out.two.frozen 1; have g2 := HX.out.two.frozen 2
 go_enter Tryz.func103, Tryz.ntmps103
 go_wp2
 (try simp only [Exit.inBlock, Exit.then])
 rw [H0.out]
 exact rcanon_out (cs := #[.int .i64 0, .int .i64 0, .string ⟨#[]⟩]) (g := w.heap.size + 1) rfl rfl rfl HX.out.two ⟨rfl, HX.out.bel⟩
theorem rc_b43  (v : ByteArray) (w : World) : Calls Tryz.prog 103 #[fieldV 4 3 v] w fun e w' => e = .returned (canonV 4 3 v) ∧ Below w.heap.size w w' := by
 have HX := Zh (Fx2.new w 4 3 v 0 0 ⟨#[]⟩); have H0 := Zh (show canonV 4 3 v = .tuple #[fieldV 0 0 ⟨#[]⟩, .int .i64 1] by unfold canonV; exact if_pos (.inr (by decide))); have b0 := HX.out.two.cell 0; have b1 := HX.out.two.cell 1; have b2 := HX.out.two.cell 2; have g0 := HX.out.two.frozen 0; have g1 := HX.out.two.frozen 1; have g2 := HX.out.two.frozen 2
 go_enter Tryz.func103, Tryz.ntmps103
 go_wp2
 (try simp only [Exit.inBlock, Exit.then])
 rw [H0.out]
 exact rcanon_out (cs := #[.int .i64 0, .int .i64 0, .string ⟨#[]⟩]) (g := w.heap.size + 1) rfl rfl rfl HX.out.two ⟨rfl, HX.out.bel⟩
theorem rc_b51  (v : ByteArray) (w : World) : Calls Tryz.prog 103 #[fieldV 5 1 v] w fun e w' => e = .returned (canonV 5 1 v) ∧ Below w.heap.size w w' := by
 have HX := Zh (Fx2.new w 5 1 v 0 0 ⟨#[]⟩); have H0 := Zh (show canonV 5 1 v = .tuple #[fieldV 0 0 ⟨#[]⟩, .int .i64 1] by unfold canonV; exact if_pos (.inr (by decide))); have b0 := HX.out.two.cell 0; have b1 := HX.out.two.cell 1; have b2 := HX.out.two.cell 2; have g0 := HX.out.two.frozen 0; have g1 := HX.out.two.frozen 1; have g2 := HX.out.two.frozen 2
 go_enter Tryz.func103, Tryz.ntmps103
 go_wp2
 (try simp only [Exit.inBlock, Exit.then])
 rw [H0.out]
 exact rcanon_out (cs := #[.int .i64 0, .int .i64 0, .string ⟨#[]⟩]) (g := w.heap.size + 1) rfl rfl rfl HX.out.two ⟨rfl, HX.out.bel⟩
theorem rc_b52  (v : ByteArray) (w : World) : Calls Tryz.prog 103 #[fieldV 5 2 v] w fun e w' => e = .returned (canonV 5 2 v) ∧ Below w.heap.size w w' := by
 have HX := Zh (Fx2.new w 5 2 v 0 0 ⟨#[]⟩); have H0 := Zh (show canonV 5 2 v = .tuple #[fieldV 0 0 ⟨#[]⟩, .int .i64 1] by unfold canonV; exact if_pos (.inr (by decide))); have b0 := HX.out.two.cell 0; have b1 := HX.out.two.cell 1; have b2 := HX.out.two.cell 2; have g0 := HX.out.two.frozen 0; have g1 := HX.out.two.frozen 1; have g2 := HX.out.two.frozen 2
 go_enter Tryz.func103, Tryz.ntmps103
 go_wp2
 (try simp only [Exit.inBlock, Exit.then])
 rw [H0.out]
 exact rcanon_out (cs := #[.int .i64 0, .int .i64 0, .string ⟨#[]⟩]) (g := w.heap.size + 1) rfl rfl rfl HX.out.two ⟨rfl, HX.out.bel⟩
theorem rc_b53  (v : ByteArray) (w : World) : Calls Tryz.prog 103 #[fieldV 5 3 v] w fun e w' => e = .returned (canonV 5 3 v) ∧ Below w.heap.size w w' := by
 have HX := Zh (Fx2.new w 5 3 v 0 0 ⟨#[]⟩); have H0 := Zh (show canonV 5 3 v = .tuple #[fieldV 0 0 ⟨#[]⟩, .int .i64 1] by unfold canonV; exact if_pos (.inr (by decide))); have b0 := HX.out.two.cell 0; have b1 := HX.out.two.cell 1; have b2 := HX.out.two.cell 2; have g0 := HX.out.two.frozen 0; have g1 := HX.out.two.frozen 1; have g2 := HX.out.two.frozen 2
 go_enter Tryz.func103, Tryz.ntmps103
 go_wp2
 (try simp only [Exit.inBlock, Exit.then])
 rw [H0.out]
 exact rcanon_out (cs := #[.int .i64 0, .int .i64 0, .string ⟨#[]⟩]) (g := w.heap.size + 1) rfl rfl rfl HX.out.two ⟨rfl, HX.out.bel⟩
theorem rc_b61  (v : ByteArray) (w : World) : Calls Tryz.prog 103 #[fieldV 6 1 v] w fun e w' => e = .returned (canonV 6 1 v) ∧ Below w.heap.size w w' := by
 have HX := Zh (Fx2.new w 6 1 v 0 0 ⟨#[]⟩); have H0 := Zh (show canonV 6 1 v = .tuple #[fieldV 0 0 ⟨#[]⟩, .int .i64 1] by unfold canonV; exact if_pos (.inr (by decide))); have b0 := HX.out.two.cell 0; have b1 := HX.out.two.cell 1; have b2 := HX.out.two.cell 2; have g0 := HX.out.two.frozen 0; have g1 := HX.out.two.frozen 1; have g2 := HX.out.two.frozen 2
 go_enter Tryz.func103, Tryz.ntmps103
 go_wp2
 (try simp only [Exit.inBlock, Exit.then])
 rw [H0.out]
 exact rcanon_out (cs := #[.int .i64 0, .int .i64 0, .string ⟨#[]⟩]) (g := w.heap.size + 1) rfl rfl rfl HX.out.two ⟨rfl, HX.out.bel⟩
theorem rc_b62  (v : ByteArray) (w : World) : Calls Tryz.prog 103 #[fieldV 6 2 v] w fun e w' => e = .returned (canonV 6 2 v) ∧ Below w.heap.size w w' := by
 have HX := Zh (Fx2.new w 6 2 v 0 0 ⟨#[]⟩); have H0 := Zh (show canonV 6 2 v = .tuple #[fieldV 0 0 ⟨#[]⟩, .int .i64 1] by unfold canonV; exact if_pos (.inr (by decide))); have b0 := HX.out.two.cell 0; have b1 := HX.out.two.cell 1; have b2 := HX.out.two.cell 2; have g0 := HX.out.two.frozen 0; have g1 := HX.out.two.frozen 1; have g2 := HX.out.two.frozen 2
 go_enter Tryz.func103, Tryz.ntmps103
 go_wp2
 (try simp only [Exit.inBlock, Exit.then])
 rw [H0.out]
 exact rcanon_out (cs := #[.int .i64 0, .int .i64 0, .string ⟨#[]⟩]) (g := w.heap.size + 1) rfl rfl rfl HX.out.two ⟨rfl, HX.out.bel⟩
theorem rc_b63  (v : ByteArray) (w : World) : Calls Tryz.prog 103 #[fieldV 6 3 v] w fun e w' => e = .returned (canonV 6 3 v) ∧ Below w.heap.size w w' := by
 have HX := Zh (Fx2.new w 6 3 v 0 0 ⟨#[]⟩); have H0 := Zh (show canonV 6 3 v = .tuple #[fieldV 0 0 ⟨#[]⟩, .int .i64 1] by unfold canonV; exact if_pos (.inr (by decide))); have b0 := HX.out.two.cell 0; have b1 := HX.out.two.cell 1; have b2 := HX.out.two.cell 2; have g0 := HX.out.two.frozen 0; have g1 := HX.out.two.frozen 1; have g2 := HX.out.two.frozen 2
 go_enter Tryz.func103, Tryz.ntmps103
 go_wp2
 (try simp only [Exit.inBlock, Exit.then])
 rw [H0.out]
 exact rcanon_out (cs := #[.int .i64 0, .int .i64 0, .string ⟨#[]⟩]) (g := w.heap.size + 1) rfl rfl rfl HX.out.two ⟨rfl, HX.out.bel⟩
theorem rc_g10 (v : ByteArray) (hs : v.size ≤ 1000000) (w : World) : Calls Tryz.prog 103 #[fieldV 1 0 v] w fun e w' => e = .returned (canonV 1 0 v) ∧ Below w.heap.size w w' := by
 have HX := Zh (Fx2.new w 1 0 v 0 0 ⟨#[]⟩); have HC := Zh (fun w => rclean_any v hs w); have HV : Hid (canonV 1 0 v = if (cleanS v).2 = 0 then .tuple #[fieldV 1 0 (cleanS v).1, .int .i64 0] else .tuple #[fieldV 0 0 ⟨#[]⟩, .int .i64 (cleanS v).2]) := Zh (by
  unfold canonV
  rw [if_neg (by decide +kernel)]
  rfl)
 obtain ⟨⟨t, e0⟩, ht⟩ : ∃ t, cleanS v = t := ⟨_, rfl⟩; rw [ht] at HC HV; clear ht hs
 by_cases h0 : e0 = 0
 ·
  subst h0; have H0 := Zh (show canonV 1 0 v = .tuple #[fieldV 1 0 t, .int .i64 0] from HV.out); clear HV
  go_enter Tryz.func103, Tryz.ntmps103
  go_wp2_with (go_at_call 122; (with_reducible refine (HC.out _).mono ?_); rintro e w2 ⟨rfl, hb⟩; have HX2 := Zh (HX.out.step hb); have a0 := HX2.out.one.cell 0; have a1 := HX2.out.one.cell 1; have a2 := HX2.out.one.cell 2; have b0 := HX2.out.two.cell 0; have b1 := HX2.out.two.cell 1; have b2 := HX2.out.two.cell 2; have g0 := HX2.out.two.frozen 0; have g1 := HX2.out.two.frozen 1; have g2 := HX2.out.two.frozen 2; clear hb)
  (try simp only [Exit.inBlock, Exit.then])
  rw [H0.out]
  exact rcanon_out (cs := #[.int .i64 1, .int .i64 0, .string t]) (g := w.heap.size + 1) rfl rfl rfl (put3 HX2.out.two _ _ _) ⟨rfl, bel3 HX2.out.bel (Nat.le_succ _) _ _ _⟩
 ·
  have H0 := Zh (show canonV 1 0 v = .tuple #[fieldV 0 0 ⟨#[]⟩, .int .i64 e0] by rw [HV.out]; exact if_neg h0); have d1 : (e0 != 0) = true := by simpa using h0
  have d2 : (e0 == 0) = false := by simpa using h0
  clear h0 HV
  go_enter Tryz.func103, Tryz.ntmps103
  go_wp2_with (go_at_call 122; (with_reducible refine (HC.out _).mono ?_); rintro e w2 ⟨rfl, hb⟩; have HX2 := Zh (HX.out.step hb); have a0 := HX2.out.one.cell 0; have a1 := HX2.out.one.cell 1; have a2 := HX2.out.one.cell 2; have b0 := HX2.out.two.cell 0; have b1 := HX2.out.two.cell 1; have b2 := HX2.out.two.cell 2; have g0 := HX2.out.two.frozen 0; have g1 := HX2.out.two.frozen 1; have g2 := HX2.out.two.frozen 2; clear hb)
  (try simp only [Exit.inBlock, Exit.then])
  rw [H0.out]
  exact rcanon_out (cs := #[.int .i64 0, .int .i64 0, .string ⟨#[]⟩]) (g := w.heap.size + 1) rfl rfl rfl (put3 HX2.out.two _ _ _) ⟨rfl, bel3 HX2.out.bel (Nat.le_succ _) _ _ _⟩
theorem rc_g20 (v : ByteArray) (hs : v.size ≤ 1000000) (w : World) : Calls Tryz.prog 103 #[fieldV 2 0 v] w fun e w' => e = .returned (canonV 2 0 v) ∧ Below w.heap.size w w' := by
 have HX := Zh (Fx2.new w 2 0 v 0 0 ⟨#[]⟩); have HC := Zh (fun w => rclean_any v hs w); have HV : Hid (canonV 2 0 v = if (cleanS v).2 = 0 then .tuple #[fieldV 2 0 (cleanS v).1, .int .i64 0] else .tuple #[fieldV 0 0 ⟨#[]⟩, .int .i64 (cleanS v).2]) := Zh (by
  unfold canonV
  rw [if_neg (by decide +kernel)]
  rfl)
 obtain ⟨⟨t, e0⟩, ht⟩ : ∃ t, cleanS v = t := ⟨_, rfl⟩; rw [ht] at HC HV; clear ht hs
 by_cases h0 : e0 = 0
 ·
  subst h0; have H0 := Zh (show canonV 2 0 v = .tuple #[fieldV 2 0 t, .int .i64 0] from HV.out); clear HV
  go_enter Tryz.func103, Tryz.ntmps103
  go_wp2_with (go_at_call 122; (with_reducible refine (HC.out _).mono ?_); rintro e w2 ⟨rfl, hb⟩; have HX2 := Zh (HX.out.step hb); have a0 := HX2.out.one.cell 0; have a1 := HX2.out.one.cell 1; have a2 := HX2.out.one.cell 2; have b0 := HX2.out.two.cell 0; have b1 := HX2.out.two.cell 1; have b2 := HX2.out.two.cell 2; have g0 := HX2.out.two.frozen 0; have g1 := HX2.out.two.frozen 1; have g2 := HX2.out.two.frozen 2; clear hb)
  (try simp only [Exit.inBlock, Exit.then])
  rw [H0.out]
  exact rcanon_out (cs := #[.int .i64 2, .int .i64 0, .string t]) (g := w.heap.size + 1) rfl rfl rfl (put3 HX2.out.two _ _ _) ⟨rfl, bel3 HX2.out.bel (Nat.le_succ _) _ _ _⟩
 ·
  have H0 := Zh (show canonV 2 0 v = .tuple #[fieldV 0 0 ⟨#[]⟩, .int .i64 e0] by rw [HV.out]; exact if_neg h0); have d1 : (e0 != 0) = true := by simpa using h0
  have d2 : (e0 == 0) = false := by simpa using h0
  clear h0 HV
  go_enter Tryz.func103, Tryz.ntmps103
  go_wp2_with (go_at_call 122; (with_reducible refine (HC.out _).mono ?_); rintro e w2 ⟨rfl, hb⟩; have HX2 := Zh (HX.out.step hb); have a0 := HX2.out.one.cell 0; have a1 := HX2.out.one.cell 1; have a2 := HX2.out.one.cell 2; have b0 := HX2.out.two.cell 0; have b1 := HX2.out.two.cell 1; have b2 := HX2.out.two.cell 2; have g0 := HX2.out.two.frozen 0; have g1 := HX2.out.two.frozen 1; have g2 := HX2.out.two.frozen 2; clear hb)
  (try simp only [Exit.inBlock, Exit.then])
  rw [H0.out]
  exact rcanon_out (cs := #[.int .i64 0, .int .i64 0, .string ⟨#[]⟩]) (g := w.heap.size + 1) rfl rfl rfl (put3 HX2.out.two _ _ _) ⟨rfl, bel3 HX2.out.bel (Nat.le_succ _) _ _ _⟩
theorem rc_g30 (v : ByteArray) (hs : v.size ≤ 1000000) (w : World) : Calls Tryz.prog 103 #[fieldV 3 0 v] w fun e w' => e = .returned (canonV 3 0 v) ∧ Below w.heap.size w w' := by
 have HX := Zh (Fx2.new w 3 0 v 0 0 ⟨#[]⟩); have HC := Zh (fun w => rtel_any v hs w); have HV : Hid (canonV 3 0 v = if (telS v).2 = 0 then .tuple #[fieldV 3 0 (telS v).1, .int .i64 0] else .tuple #[fieldV 0 0 ⟨#[]⟩, .int .i64 (telS v).2]) := Zh (by
  unfold canonV
  rw [if_neg (by decide +kernel)]
  rfl)
 obtain ⟨⟨t, e0⟩, ht⟩ : ∃ t, telS v = t := ⟨_, rfl⟩; rw [ht] at HC HV; clear ht hs
 by_cases h0 : e0 = 0
 ·
  subst h0; have H0 := Zh (show canonV 3 0 v = .tuple #[fieldV 3 0 t, .int .i64 0] from HV.out); clear HV
  go_enter Tryz.func103, Tryz.ntmps103
  go_wp2_with (go_at_call 120; (with_reducible refine (HC.out _).mono ?_); rintro e w2 ⟨rfl, hb⟩; have HX2 := Zh (HX.out.step hb); have a0 := HX2.out.one.cell 0; have a1 := HX2.out.one.cell 1; have a2 := HX2.out.one.cell 2; have b0 := HX2.out.two.cell 0; have b1 := HX2.out.two.cell 1; have b2 := HX2.out.two.cell 2; have g0 := HX2.out.two.frozen 0; have g1 := HX2.out.two.frozen 1; have g2 := HX2.out.two.frozen 2; clear hb)
  (try simp only [Exit.inBlock, Exit.then])
  rw [H0.out]
  exact rcanon_out (cs := #[.int .i64 3, .int .i64 0, .string t]) (g := w.heap.size + 1) rfl rfl rfl (put3 HX2.out.two _ _ _) ⟨rfl, bel3 HX2.out.bel (Nat.le_succ _) _ _ _⟩
 ·
  have H0 := Zh (show canonV 3 0 v = .tuple #[fieldV 0 0 ⟨#[]⟩, .int .i64 e0] by rw [HV.out]; exact if_neg h0); have d1 : (e0 != 0) = true := by simpa using h0
  have d2 : (e0 == 0) = false := by simpa using h0
  clear h0 HV
  go_enter Tryz.func103, Tryz.ntmps103
  go_wp2_with (go_at_call 120; (with_reducible refine (HC.out _).mono ?_); rintro e w2 ⟨rfl, hb⟩; have HX2 := Zh (HX.out.step hb); have a0 := HX2.out.one.cell 0; have a1 := HX2.out.one.cell 1; have a2 := HX2.out.one.cell 2; have b0 := HX2.out.two.cell 0; have b1 := HX2.out.two.cell 1; have b2 := HX2.out.two.cell 2; have g0 := HX2.out.two.frozen 0; have g1 := HX2.out.two.frozen 1; have g2 := HX2.out.two.frozen 2; clear hb)
  (try simp only [Exit.inBlock, Exit.then])
  rw [H0.out]
  exact rcanon_out (cs := #[.int .i64 0, .int .i64 0, .string ⟨#[]⟩]) (g := w.heap.size + 1) rfl rfl rfl (put3 HX2.out.two _ _ _) ⟨rfl, bel3 HX2.out.bel (Nat.le_succ _) _ _ _⟩
theorem rc_g31 (v : ByteArray) (hs : v.size ≤ 1000000) (w : World) : Calls Tryz.prog 103 #[fieldV 3 1 v] w fun e w' => e = .returned (canonV 3 1 v) ∧ Below w.heap.size w w' := by
 have HX := Zh (Fx2.new w 3 1 v 0 0 ⟨#[]⟩); have HC := Zh (fun w => rtel_any v hs w); have HV : Hid (canonV 3 1 v = if (telS v).2 = 0 then .tuple #[fieldV 3 1 (telS v).1, .int .i64 0] else .tuple #[fieldV 0 0 ⟨#[]⟩, .int .i64 (telS v).2]) := Zh (by
  unfold canonV
  rw [if_neg (by decide +kernel)]
  rfl)
 obtain ⟨⟨t, e0⟩, ht⟩ : ∃ t, telS v = t := ⟨_, rfl⟩; rw [ht] at HC HV; clear ht hs
 by_cases h0 : e0 = 0
 ·
  subst h0; have H0 := Zh (show canonV 3 1 v = .tuple #[fieldV 3 1 t, .int .i64 0] from HV.out); clear HV
  go_enter Tryz.func103, Tryz.ntmps103
  go_wp2_with (go_at_call 120; (with_reducible refine (HC.out _).mono ?_); rintro e w2 ⟨rfl, hb⟩; have HX2 := Zh (HX.out.step hb); have a0 := HX2.out.one.cell 0; have a1 := HX2.out.one.cell 1; have a2 := HX2.out.one.cell 2; have b0 := HX2.out.two.cell 0; have b1 := HX2.out.two.cell 1; have b2 := HX2.out.two.cell 2; have g0 := HX2.out.two.frozen 0; have g1 := HX2.out.two.frozen 1; have g2 := HX2.out.two.frozen 2; clear hb)
  (try simp only [Exit.inBlock, Exit.then])
  rw [H0.out]
  exact rcanon_out (cs := #[.int .i64 3, .int .i64 1, .string t]) (g := w.heap.size + 1) rfl rfl rfl (put3 HX2.out.two _ _ _) ⟨rfl, bel3 HX2.out.bel (Nat.le_succ _) _ _ _⟩
 ·
  have H0 := Zh (show canonV 3 1 v = .tuple #[fieldV 0 0 ⟨#[]⟩, .int .i64 e0] by rw [HV.out]; exact if_neg h0); have d1 : (e0 != 0) = true := by simpa using h0
  have d2 : (e0 == 0) = false := by simpa using h0
  clear h0 HV
  go_enter Tryz.func103, Tryz.ntmps103
  go_wp2_with (go_at_call 120; (with_reducible refine (HC.out _).mono ?_); rintro e w2 ⟨rfl, hb⟩; have HX2 := Zh (HX.out.step hb); have a0 := HX2.out.one.cell 0; have a1 := HX2.out.one.cell 1; have a2 := HX2.out.one.cell 2; have b0 := HX2.out.two.cell 0; have b1 := HX2.out.two.cell 1; have b2 := HX2.out.two.cell 2; have g0 := HX2.out.two.frozen 0; have g1 := HX2.out.two.frozen 1; have g2 := HX2.out.two.frozen 2; clear hb)
  (try simp only [Exit.inBlock, Exit.then])
  rw [H0.out]
  exact rcanon_out (cs := #[.int .i64 0, .int .i64 0, .string ⟨#[]⟩]) (g := w.heap.size + 1) rfl rfl rfl (put3 HX2.out.two _ _ _) ⟨rfl, bel3 HX2.out.bel (Nat.le_succ _) _ _ _⟩
theorem rc_g32 (v : ByteArray) (hs : v.size ≤ 1000000) (w : World) : Calls Tryz.prog 103 #[fieldV 3 2 v] w fun e w' => e = .returned (canonV 3 2 v) ∧ Below w.heap.size w w' := by
 have HX := Zh (Fx2.new w 3 2 v 0 0 ⟨#[]⟩); have HC := Zh (fun w => rtel_any v hs w); have HV : Hid (canonV 3 2 v = if (telS v).2 = 0 then .tuple #[fieldV 3 2 (telS v).1, .int .i64 0] else .tuple #[fieldV 0 0 ⟨#[]⟩, .int .i64 (telS v).2]) := Zh (by
  unfold canonV
  rw [if_neg (by decide +kernel)]
  rfl)
 obtain ⟨⟨t, e0⟩, ht⟩ : ∃ t, telS v = t := ⟨_, rfl⟩; rw [ht] at HC HV; clear ht hs
 by_cases h0 : e0 = 0
 ·
  subst h0; have H0 := Zh (show canonV 3 2 v = .tuple #[fieldV 3 2 t, .int .i64 0] from HV.out); clear HV
  go_enter Tryz.func103, Tryz.ntmps103
  go_wp2_with (go_at_call 120; (with_reducible refine (HC.out _).mono ?_); rintro e w2 ⟨rfl, hb⟩; have HX2 := Zh (HX.out.step hb); have a0 := HX2.out.one.cell 0; have a1 := HX2.out.one.cell 1; have a2 := HX2.out.one.cell 2; have b0 := HX2.out.two.cell 0; have b1 := HX2.out.two.cell 1; have b2 := HX2.out.two.cell 2; have g0 := HX2.out.two.frozen 0; have g1 := HX2.out.two.frozen 1; have g2 := HX2.out.two.frozen 2; clear hb)
  (try simp only [Exit.inBlock, Exit.then])
  rw [H0.out]
  exact rcanon_out (cs := #[.int .i64 3, .int .i64 2, .string t]) (g := w.heap.size + 1) rfl rfl rfl (put3 HX2.out.two _ _ _) ⟨rfl, bel3 HX2.out.bel (Nat.le_succ _) _ _ _⟩
 ·
  have H0 := Zh (show canonV 3 2 v = .tuple #[fieldV 0 0 ⟨#[]⟩, .int .i64 e0] by rw [HV.out]; exact if_neg h0); have d1 : (e0 != 0) = true := by simpa using h0
  have d2 : (e0 == 0) = false := by simpa using h0
  clear h0 HV
  go_enter Tryz.func103, Tryz.ntmps103
  go_wp2_with (go_at_call 120; (with_reducible refine (HC.out _).mono ?_); rintro e w2 ⟨rfl, hb⟩; have HX2 := Zh (HX.out.step hb); have a0 := HX2.out.one.cell 0; have a1 := HX2.out.one.cell 1; have a2 := HX2.out.one.cell 2; have b0 := HX2.out.two.cell 0; have b1 := HX2.out.two.cell 1; have b2 := HX2.out.two.cell 2; have g0 := HX2.out.two.frozen 0; have g1 := HX2.out.two.frozen 1; have g2 := HX2.out.two.frozen 2; clear hb)
  (try simp only [Exit.inBlock, Exit.then])
  rw [H0.out]
  exact rcanon_out (cs := #[.int .i64 0, .int .i64 0, .string ⟨#[]⟩]) (g := w.heap.size + 1) rfl rfl rfl (put3 HX2.out.two _ _ _) ⟨rfl, bel3 HX2.out.bel (Nat.le_succ _) _ _ _⟩
theorem rc_g33 (v : ByteArray) (hs : v.size ≤ 1000000) (w : World) : Calls Tryz.prog 103 #[fieldV 3 3 v] w fun e w' => e = .returned (canonV 3 3 v) ∧ Below w.heap.size w w' := by
 have HX := Zh (Fx2.new w 3 3 v 0 0 ⟨#[]⟩); have HC := Zh (fun w => rtel_any v hs w); have HV : Hid (canonV 3 3 v = if (telS v).2 = 0 then .tuple #[fieldV 3 3 (telS v).1, .int .i64 0] else .tuple #[fieldV 0 0 ⟨#[]⟩, .int .i64 (telS v).2]) := Zh (by
  unfold canonV
  rw [if_neg (by decide +kernel)]
  rfl)
 obtain ⟨⟨t, e0⟩, ht⟩ : ∃ t, telS v = t := ⟨_, rfl⟩; rw [ht] at HC HV; clear ht hs
 by_cases h0 : e0 = 0
 ·
  subst h0; have H0 := Zh (show canonV 3 3 v = .tuple #[fieldV 3 3 t, .int .i64 0] from HV.out); clear HV
  go_enter Tryz.func103, Tryz.ntmps103
  go_wp2_with (go_at_call 120; (with_reducible refine (HC.out _).mono ?_); rintro e w2 ⟨rfl, hb⟩; have HX2 := Zh (HX.out.step hb); have a0 := HX2.out.one.cell 0; have a1 := HX2.out.one.cell 1; have a2 := HX2.out.one.cell 2; have b0 := HX2.out.two.cell 0; have b1 := HX2.out.two.cell 1; have b2 := HX2.out.two.cell 2; have g0 := HX2.out.two.frozen 0; have g1 := HX2.out.two.frozen 1; have g2 := HX2.out.two.frozen 2; clear hb)
  (try simp only [Exit.inBlock, Exit.then])
  rw [H0.out]
  exact rcanon_out (cs := #[.int .i64 3, .int .i64 3, .string t]) (g := w.heap.size + 1) rfl rfl rfl (put3 HX2.out.two _ _ _) ⟨rfl, bel3 HX2.out.bel (Nat.le_succ _) _ _ _⟩
 ·
  have H0 := Zh (show canonV 3 3 v = .tuple #[fieldV 0 0 ⟨#[]⟩, .int .i64 e0] by rw [HV.out]; exact if_neg h0); have d1 : (e0 != 0) = true := by simpa using h0
  have d2 : (e0 == 0) = false := by simpa using h0
  clear h0 HV
  go_enter Tryz.func103, Tryz.ntmps103
  go_wp2_with (go_at_call 120; (with_reducible refine (HC.out _).mono ?_); rintro e w2 ⟨rfl, hb⟩; have HX2 := Zh (HX.out.step hb); have a0 := HX2.out.one.cell 0; have a1 := HX2.out.one.cell 1; have a2 := HX2.out.one.cell 2; have b0 := HX2.out.two.cell 0; have b1 := HX2.out.two.cell 1; have b2 := HX2.out.two.cell 2; have g0 := HX2.out.two.frozen 0; have g1 := HX2.out.two.frozen 1; have g2 := HX2.out.two.frozen 2; clear hb)
  (try simp only [Exit.inBlock, Exit.then])
  rw [H0.out]
  exact rcanon_out (cs := #[.int .i64 0, .int .i64 0, .string ⟨#[]⟩]) (g := w.heap.size + 1) rfl rfl rfl (put3 HX2.out.two _ _ _) ⟨rfl, bel3 HX2.out.bel (Nat.le_succ _) _ _ _⟩
theorem rc_g40 (v : ByteArray) (hs : v.size ≤ 1000000) (w : World) : Calls Tryz.prog 103 #[fieldV 4 0 v] w fun e w' => e = .returned (canonV 4 0 v) ∧ Below w.heap.size w w' := by
 have HX := Zh (Fx2.new w 4 0 v 0 0 ⟨#[]⟩); have HC := Zh (fun w => rmail_any v hs w); have HV : Hid (canonV 4 0 v = if (mailS v).2 = 0 then .tuple #[fieldV 4 0 (mailS v).1, .int .i64 0] else .tuple #[fieldV 0 0 ⟨#[]⟩, .int .i64 (mailS v).2]) := Zh (by
  unfold canonV
  rw [if_neg (by decide +kernel)]
  rfl)
 obtain ⟨⟨t, e0⟩, ht⟩ : ∃ t, mailS v = t := ⟨_, rfl⟩; rw [ht] at HC HV; clear ht hs
 by_cases h0 : e0 = 0
 ·
  subst h0; have H0 := Zh (show canonV 4 0 v = .tuple #[fieldV 4 0 t, .int .i64 0] from HV.out); clear HV
  go_enter Tryz.func103, Tryz.ntmps103
  go_wp2_with (go_at_call 121; (with_reducible refine (HC.out _).mono ?_); rintro e w2 ⟨rfl, hb⟩; have HX2 := Zh (HX.out.step hb); have a0 := HX2.out.one.cell 0; have a1 := HX2.out.one.cell 1; have a2 := HX2.out.one.cell 2; have b0 := HX2.out.two.cell 0; have b1 := HX2.out.two.cell 1; have b2 := HX2.out.two.cell 2; have g0 := HX2.out.two.frozen 0; have g1 := HX2.out.two.frozen 1; have g2 := HX2.out.two.frozen 2; clear hb)
  (try simp only [Exit.inBlock, Exit.then])
  rw [H0.out]
  exact rcanon_out (cs := #[.int .i64 4, .int .i64 0, .string t]) (g := w.heap.size + 1) rfl rfl rfl (put3 HX2.out.two _ _ _) ⟨rfl, bel3 HX2.out.bel (Nat.le_succ _) _ _ _⟩
 ·
  have H0 := Zh (show canonV 4 0 v = .tuple #[fieldV 0 0 ⟨#[]⟩, .int .i64 e0] by rw [HV.out]; exact if_neg h0); have d1 : (e0 != 0) = true := by simpa using h0
  have d2 : (e0 == 0) = false := by simpa using h0
  clear h0 HV
  go_enter Tryz.func103, Tryz.ntmps103
  go_wp2_with (go_at_call 121; (with_reducible refine (HC.out _).mono ?_); rintro e w2 ⟨rfl, hb⟩; have HX2 := Zh (HX.out.step hb); have a0 := HX2.out.one.cell 0; have a1 := HX2.out.one.cell 1; have a2 := HX2.out.one.cell 2; have b0 := HX2.out.two.cell 0; have b1 := HX2.out.two.cell 1; have b2 := HX2.out.two.cell 2; have g0 := HX2.out.two.frozen 0; have g1 := HX2.out.two.frozen 1; have g2 := HX2.out.two.frozen 2; clear hb)
  (try simp only [Exit.inBlock, Exit.then])
  rw [H0.out]
  exact rcanon_out (cs := #[.int .i64 0, .int .i64 0, .string ⟨#[]⟩]) (g := w.heap.size + 1) rfl rfl rfl (put3 HX2.out.two _ _ _) ⟨rfl, bel3 HX2.out.bel (Nat.le_succ _) _ _ _⟩
theorem rc_g41 (v : ByteArray) (hs : v.size ≤ 1000000) (w : World) : Calls Tryz.prog 103 #[fieldV 4 1 v] w fun e w' => e = .returned (canonV 4 1 v) ∧ Below w.heap.size w w' := by
 have HX := Zh (Fx2.new w 4 1 v 0 0 ⟨#[]⟩); have HC := Zh (fun w => rmail_any v hs w); have HV : Hid (canonV 4 1 v = if (mailS v).2 = 0 then .tuple #[fieldV 4 1 (mailS v).1, .int .i64 0] else .tuple #[fieldV 0 0 ⟨#[]⟩, .int .i64 (mailS v).2]) := Zh (by
  unfold canonV
  rw [if_neg (by decide +kernel)]
  rfl)
 obtain ⟨⟨t, e0⟩, ht⟩ : ∃ t, mailS v = t := ⟨_, rfl⟩; rw [ht] at HC HV; clear ht hs
 by_cases h0 : e0 = 0
 ·
  subst h0; have H0 := Zh (show canonV 4 1 v = .tuple #[fieldV 4 1 t, .int .i64 0] from HV.out); clear HV
  go_enter Tryz.func103, Tryz.ntmps103
  go_wp2_with (go_at_call 121; (with_reducible refine (HC.out _).mono ?_); rintro e w2 ⟨rfl, hb⟩; have HX2 := Zh (HX.out.step hb); have a0 := HX2.out.one.cell 0; have a1 := HX2.out.one.cell 1; have a2 := HX2.out.one.cell 2; have b0 := HX2.out.two.cell 0; have b1 := HX2.out.two.cell 1; have b2 := HX2.out.two.cell 2; have g0 := HX2.out.two.frozen 0; have g1 := HX2.out.two.frozen 1; have g2 := HX2.out.two.frozen 2; clear hb)
  (try simp only [Exit.inBlock, Exit.then])
  rw [H0.out]
  exact rcanon_out (cs := #[.int .i64 4, .int .i64 1, .string t]) (g := w.heap.size + 1) rfl rfl rfl (put3 HX2.out.two _ _ _) ⟨rfl, bel3 HX2.out.bel (Nat.le_succ _) _ _ _⟩
 ·
  have H0 := Zh (show canonV 4 1 v = .tuple #[fieldV 0 0 ⟨#[]⟩, .int .i64 e0] by rw [HV.out]; exact if_neg h0); have d1 : (e0 != 0) = true := by simpa using h0
  have d2 : (e0 == 0) = false := by simpa using h0
  clear h0 HV
  go_enter Tryz.func103, Tryz.ntmps103
  go_wp2_with (go_at_call 121; (with_reducible refine (HC.out _).mono ?_); rintro e w2 ⟨rfl, hb⟩; have HX2 := Zh (HX.out.step hb); have a0 := HX2.out.one.cell 0; have a1 := HX2.out.one.cell 1; have a2 := HX2.out.one.cell 2; have b0 := HX2.out.two.cell 0; have b1 := HX2.out.two.cell 1; have b2 := HX2.out.two.cell 2; have g0 := HX2.out.two.frozen 0; have g1 := HX2.out.two.frozen 1; have g2 := HX2.out.two.frozen 2; clear hb)
  (try simp only [Exit.inBlock, Exit.then])
  rw [H0.out]
  exact rcanon_out (cs := #[.int .i64 0, .int .i64 0, .string ⟨#[]⟩]) (g := w.heap.size + 1) rfl rfl rfl (put3 HX2.out.two _ _ _) ⟨rfl, bel3 HX2.out.bel (Nat.le_succ _) _ _ _⟩
theorem rc_g42 (v : ByteArray) (hs : v.size ≤ 1000000) (w : World) : Calls Tryz.prog 103 #[fieldV 4 2 v] w fun e w' => e = .returned (canonV 4 2 v) ∧ Below w.heap.size w w' := by
 have HX := Zh (Fx2.new w 4 2 v 0 0 ⟨#[]⟩); have HC := Zh (fun w => rmail_any v hs w); have HV : Hid (canonV 4 2 v = if (mailS v).2 = 0 then .tuple #[fieldV 4 2 (mailS v).1, .int .i64 0] else .tuple #[fieldV 0 0 ⟨#[]⟩, .int .i64 (mailS v).2]) := Zh (by
  unfold canonV
  rw [if_neg (by decide +kernel)]
  rfl)
 obtain ⟨⟨t, e0⟩, ht⟩ : ∃ t, mailS v = t := ⟨_, rfl⟩; rw [ht] at HC HV; clear ht hs
 by_cases h0 : e0 = 0
 ·
  subst h0; have H0 := Zh (show canonV 4 2 v = .tuple #[fieldV 4 2 t, .int .i64 0] from HV.out); clear HV
  go_enter Tryz.func103, Tryz.ntmps103
  go_wp2_with (go_at_call 121; (with_reducible refine (HC.out _).mono ?_); rintro e w2 ⟨rfl, hb⟩; have HX2 := Zh (HX.out.step hb); have a0 := HX2.out.one.cell 0; have a1 := HX2.out.one.cell 1; have a2 := HX2.out.one.cell 2; have b0 := HX2.out.two.cell 0; have b1 := HX2.out.two.cell 1; have b2 := HX2.out.two.cell 2; have g0 := HX2.out.two.frozen 0; have g1 := HX2.out.two.frozen 1; have g2 := HX2.out.two.frozen 2; clear hb)
  (try simp only [Exit.inBlock, Exit.then])
  rw [H0.out]
  exact rcanon_out (cs := #[.int .i64 4, .int .i64 2, .string t]) (g := w.heap.size + 1) rfl rfl rfl (put3 HX2.out.two _ _ _) ⟨rfl, bel3 HX2.out.bel (Nat.le_succ _) _ _ _⟩
 ·
  have H0 := Zh (show canonV 4 2 v = .tuple #[fieldV 0 0 ⟨#[]⟩, .int .i64 e0] by rw [HV.out]; exact if_neg h0); have d1 : (e0 != 0) = true := by simpa using h0
  have d2 : (e0 == 0) = false := by simpa using h0
  clear h0 HV
  go_enter Tryz.func103, Tryz.ntmps103
  go_wp2_with (go_at_call 121; (with_reducible refine (HC.out _).mono ?_); rintro e w2 ⟨rfl, hb⟩; have HX2 := Zh (HX.out.step hb); have a0 := HX2.out.one.cell 0; have a1 := HX2.out.one.cell 1; have a2 := HX2.out.one.cell 2; have b0 := HX2.out.two.cell 0; have b1 := HX2.out.two.cell 1; have b2 := HX2.out.two.cell 2; have g0 := HX2.out.two.frozen 0; have g1 := HX2.out.two.frozen 1; have g2 := HX2.out.two.frozen 2; clear hb)
  (try simp only [Exit.inBlock, Exit.then])
  rw [H0.out]
  exact rcanon_out (cs := #[.int .i64 0, .int .i64 0, .string ⟨#[]⟩]) (g := w.heap.size + 1) rfl rfl rfl (put3 HX2.out.two _ _ _) ⟨rfl, bel3 HX2.out.bel (Nat.le_succ _) _ _ _⟩
theorem rc_g50 (v : ByteArray) (hs : v.size ≤ 1000000) (w : World) : Calls Tryz.prog 103 #[fieldV 5 0 v] w fun e w' => e = .returned (canonV 5 0 v) ∧ Below w.heap.size w w' := by
 have HX := Zh (Fx2.new w 5 0 v 0 0 ⟨#[]⟩); have HC := Zh (fun w => rclean_any v hs w); have HV : Hid (canonV 5 0 v = if (cleanS v).2 = 0 then (if dayE (cleanS v).1 = 0 then .tuple #[fieldV 5 0 (cleanS v).1, .int .i64 0] else .tuple #[fieldV 0 0 ⟨#[]⟩, .int .i64 (dayE (cleanS v).1)]) else .tuple #[fieldV 0 0 ⟨#[]⟩, .int .i64 (cleanS v).2]) := Zh (by
  unfold canonV
  rw [if_neg (by decide +kernel)]; have hv : valueS 5 v = if (5 : Int) = 5 ∧ (cleanS v).2 = 0 then ((cleanS v).1, dayE (cleanS v).1) else cleanS v := rfl
  by_cases h : (cleanS v).2 = 0
  ·
   rw [hv.trans (if_pos ⟨rfl, h⟩), if_pos h]
  ·
   rw [hv.trans (if_neg (fun e => h e.2)), if_neg h, if_neg h])
 have hle := clean_le v hs; have HP := Zh (fun w => Day.rparse_any (cleanS v).1 hle w); rw [dayE_val] at HP; clear hle; obtain ⟨⟨t, e0⟩, ht⟩ : ∃ t, cleanS v = t := ⟨_, rfl⟩; rw [ht] at HC HV HP; clear ht hs; obtain ⟨d, hd⟩ : ∃ d, dayE t = d := ⟨_, rfl⟩
 by_cases h0 : e0 = 0
 ·
  subst h0; have HV2 := Zh (show canonV 5 0 v = if dayE t = 0 then .tuple #[fieldV 5 0 t, .int .i64 0] else .tuple #[fieldV 0 0 ⟨#[]⟩, .int .i64 (dayE t)] from HV.out); simp only at HP; rw [hd] at HV2 HP; clear HV hd
  by_cases h1 : d = 0
  ·
   subst h1; have H0 := Zh (show canonV 5 0 v = .tuple #[fieldV 5 0 t, .int .i64 0] from HV2.out)
   go_enter Tryz.func103, Tryz.ntmps103
   go_wp2_with (go_at_call 122; (with_reducible refine (HC.out _).mono ?_); rintro e w2 ⟨rfl, hb⟩; have HX2 := Zh (HX.out.step hb); have a0 := HX2.out.one.cell 0; have a1 := HX2.out.one.cell 1; have a2 := HX2.out.one.cell 2; have b0 := HX2.out.two.cell 0; have b1 := HX2.out.two.cell 1; have b2 := HX2.out.two.cell 2; have g0 := HX2.out.two.frozen 0; have g1 := HX2.out.two.frozen 1; have g2 := HX2.out.two.frozen 2; clear hb)
   go_wp2_with (go_at_call 123; (with_reducible refine (HP.out _).mono ?_); rintro e w3 ⟨rfl, hb⟩; have HX3 := Zh (HX2.out.step hb); have a0 := HX3.out.one.cell 0; have a1 := HX3.out.one.cell 1; have a2 := HX3.out.one.cell 2; have b0 := HX3.out.two.cell 0; have b1 := HX3.out.two.cell 1; have b2 := HX3.out.two.cell 2; have g0 := HX3.out.two.frozen 0; have g1 := HX3.out.two.frozen 1; have g2 := HX3.out.two.frozen 2; clear hb)
   (try simp only [Exit.inBlock, Exit.then])
   rw [H0.out]
   exact rcanon_out (cs := #[.int .i64 5, .int .i64 0, .string t]) (g := w.heap.size + 1) rfl rfl rfl (put3 HX3.out.two _ _ _) ⟨rfl, bel3 HX3.out.bel (Nat.le_succ _) _ _ _⟩
  ·
   have H0 := Zh (show canonV 5 0 v = .tuple #[fieldV 0 0 ⟨#[]⟩, .int .i64 d] by rw [HV2.out, if_neg h1]); have d1 : (d != 0) = true := by simpa using h1
   clear h1 HV2
   go_enter Tryz.func103, Tryz.ntmps103
   go_wp2_with (go_at_call 122; (with_reducible refine (HC.out _).mono ?_); rintro e w2 ⟨rfl, hb⟩; have HX2 := Zh (HX.out.step hb); have a0 := HX2.out.one.cell 0; have a1 := HX2.out.one.cell 1; have a2 := HX2.out.one.cell 2; have b0 := HX2.out.two.cell 0; have b1 := HX2.out.two.cell 1; have b2 := HX2.out.two.cell 2; have g0 := HX2.out.two.frozen 0; have g1 := HX2.out.two.frozen 1; have g2 := HX2.out.two.frozen 2; clear hb)
   go_wp2_with (go_at_call 123; (with_reducible refine (HP.out _).mono ?_); rintro e w3 ⟨rfl, hb⟩; have HX3 := Zh (HX2.out.step hb); have a0 := HX3.out.one.cell 0; have a1 := HX3.out.one.cell 1; have a2 := HX3.out.one.cell 2; have b0 := HX3.out.two.cell 0; have b1 := HX3.out.two.cell 1; have b2 := HX3.out.two.cell 2; have g0 := HX3.out.two.frozen 0; have g1 := HX3.out.two.frozen 1; have g2 := HX3.out.two.frozen 2; clear hb)
   (try simp only [Exit.inBlock, Exit.then])
   rw [H0.out]
   exact rcanon_out (cs := #[.int .i64 0, .int .i64 0, .string ⟨#[]⟩]) (g := w.heap.size + 1) rfl rfl rfl (put3 HX3.out.two _ _ _) ⟨rfl, bel3 HX3.out.bel (Nat.le_succ _) _ _ _⟩
 ·
  have H0 := Zh (show canonV 5 0 v = .tuple #[fieldV 0 0 ⟨#[]⟩, .int .i64 e0] by rw [HV.out]; exact if_neg h0); have d1 : (e0 != 0) = true := by simpa using h0
  have d2 : (e0 == 0) = false := by simpa using h0
  clear h0 HV
  go_enter Tryz.func103, Tryz.ntmps103
  go_wp2_with (go_at_call 122; (with_reducible refine (HC.out _).mono ?_); rintro e w2 ⟨rfl, hb⟩; have HX2 := Zh (HX.out.step hb); have a0 := HX2.out.one.cell 0; have a1 := HX2.out.one.cell 1; have a2 := HX2.out.one.cell 2; have b0 := HX2.out.two.cell 0; have b1 := HX2.out.two.cell 1; have b2 := HX2.out.two.cell 2; have g0 := HX2.out.two.frozen 0; have g1 := HX2.out.two.frozen 1; have g2 := HX2.out.two.frozen 2; clear hb)
  (try simp only [Exit.inBlock, Exit.then])
  rw [H0.out]
  exact rcanon_out (cs := #[.int .i64 0, .int .i64 0, .string ⟨#[]⟩]) (g := w.heap.size + 1) rfl rfl rfl (put3 HX2.out.two _ _ _) ⟨rfl, bel3 HX2.out.bel (Nat.le_succ _) _ _ _⟩
theorem rc_g60 (v : ByteArray) (hs : v.size ≤ 1000000) (w : World) : Calls Tryz.prog 103 #[fieldV 6 0 v] w fun e w' => e = .returned (canonV 6 0 v) ∧ Below w.heap.size w w' := by
 have HX := Zh (Fx2.new w 6 0 v 0 0 ⟨#[]⟩); have HC := Zh (fun w => rclean_any v hs w); have HV : Hid (canonV 6 0 v = if (cleanS v).2 = 0 then .tuple #[fieldV 6 0 (cleanS v).1, .int .i64 0] else .tuple #[fieldV 0 0 ⟨#[]⟩, .int .i64 (cleanS v).2]) := Zh (by
  unfold canonV
  rw [if_neg (by decide +kernel)]
  rfl)
 obtain ⟨⟨t, e0⟩, ht⟩ : ∃ t, cleanS v = t := ⟨_, rfl⟩; rw [ht] at HC HV; clear ht hs
 by_cases h0 : e0 = 0
 ·
  subst h0; have H0 := Zh (show canonV 6 0 v = .tuple #[fieldV 6 0 t, .int .i64 0] from HV.out); clear HV
  go_enter Tryz.func103, Tryz.ntmps103
  go_wp2_with (go_at_call 122; (with_reducible refine (HC.out _).mono ?_); rintro e w2 ⟨rfl, hb⟩; have HX2 := Zh (HX.out.step hb); have a0 := HX2.out.one.cell 0; have a1 := HX2.out.one.cell 1; have a2 := HX2.out.one.cell 2; have b0 := HX2.out.two.cell 0; have b1 := HX2.out.two.cell 1; have b2 := HX2.out.two.cell 2; have g0 := HX2.out.two.frozen 0; have g1 := HX2.out.two.frozen 1; have g2 := HX2.out.two.frozen 2; clear hb)
  (try simp only [Exit.inBlock, Exit.then])
  rw [H0.out]
  exact rcanon_out (cs := #[.int .i64 6, .int .i64 0, .string t]) (g := w.heap.size + 1) rfl rfl rfl (put3 HX2.out.two _ _ _) ⟨rfl, bel3 HX2.out.bel (Nat.le_succ _) _ _ _⟩
 ·
  have H0 := Zh (show canonV 6 0 v = .tuple #[fieldV 0 0 ⟨#[]⟩, .int .i64 e0] by rw [HV.out]; exact if_neg h0); have d1 : (e0 != 0) = true := by simpa using h0
  have d2 : (e0 == 0) = false := by simpa using h0
  clear h0 HV
  go_enter Tryz.func103, Tryz.ntmps103
  go_wp2_with (go_at_call 122; (with_reducible refine (HC.out _).mono ?_); rintro e w2 ⟨rfl, hb⟩; have HX2 := Zh (HX.out.step hb); have a0 := HX2.out.one.cell 0; have a1 := HX2.out.one.cell 1; have a2 := HX2.out.one.cell 2; have b0 := HX2.out.two.cell 0; have b1 := HX2.out.two.cell 1; have b2 := HX2.out.two.cell 2; have g0 := HX2.out.two.frozen 0; have g1 := HX2.out.two.frozen 1; have g2 := HX2.out.two.frozen 2; clear hb)
  (try simp only [Exit.inBlock, Exit.then])
  rw [H0.out]
  exact rcanon_out (cs := #[.int .i64 0, .int .i64 0, .string ⟨#[]⟩]) (g := w.heap.size + 1) rfl rfl rfl (put3 HX2.out.two _ _ _) ⟨rfl, bel3 HX2.out.bel (Nat.le_succ _) _ _ _⟩
theorem frcanon_any (k l : Int) (v : ByteArray) (hs : v.size ≤ 1000000) (w : World) : Calls Tryz.prog 103 #[fieldV k l v] w fun e w' => e = .returned (canonV k l v) ∧ Below w.heap.size w w' := by
 by_cases hk : k < 1
 ·
  exact rc_low k l hk v w
 by_cases hk6 : k > 6
 ·
  exact rc_high k l hk hk6 v w
 by_cases hl : l < 0
 ·
  exact rc_llow k l hk hk6 hl v w
 by_cases hl3 : l > 3
 ·
  exact rc_lhigh k l hk hk6 hl hl3 v w
 rcases (show k = 1 ∨ k = 2 ∨ k = 3 ∨ k = 4 ∨ k = 5 ∨ k = 6 by omega) with rfl | rfl | rfl | rfl | rfl | rfl <;> rcases (show l = 0 ∨ l = 1 ∨ l = 2 ∨ l = 3 by omega) with rfl | rfl | rfl | rfl
 ·
  exact rc_g10 v hs w
 ·
  exact rc_b11 v w
 ·
  exact rc_b12 v w
 ·
  exact rc_b13 v w
 ·
  exact rc_g20 v hs w
 ·
  exact rc_b21 v w
 ·
  exact rc_b22 v w
 ·
  exact rc_b23 v w
 ·
  exact rc_g30 v hs w
 ·
  exact rc_g31 v hs w
 ·
  exact rc_g32 v hs w
 ·
  exact rc_g33 v hs w
 ·
  exact rc_g40 v hs w
 ·
  exact rc_g41 v hs w
 ·
  exact rc_g42 v hs w
 ·
  exact rc_b43 v w
 ·
  exact rc_g50 v hs w
 ·
  exact rc_b51 v w
 ·
  exact rc_b52 v w
 ·
  exact rc_b53 v w
 ·
  exact rc_g60 v hs w
 ·
  exact rc_b61 v w
 ·
  exact rc_b62 v w
 ·
  exact rc_b63 v w
end Go.Proofs.YtphijnkiiokieaaGreatDoor
