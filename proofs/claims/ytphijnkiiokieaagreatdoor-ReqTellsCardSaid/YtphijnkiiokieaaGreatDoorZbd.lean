/- Texts of one proof, joined. -/
import Derived.Test.YtphijnkiiokieaaGreatDoorZbc
set_option linter.unusedVariables false
set_option linter.unusedSimpArgs false
set_option maxRecDepth 100000
set_option maxHeartbeats 80000000
namespace Go.Proofs.YtphijnkiiokieaaGreatDoor
open Go.RowKit
open Go.Lib hiding intOf
attribute [local go_sem ↓] Go.wp_at_zero Go.wp_at_succ
theorem words_any (w : World) : Calls Tryz.prog 89 #[] w fun e w' => e = .returned (.slice (some ⟨w.heap.size, 0, none⟩) 7 7) ∧ w' = w.alloc (.cells #[.string ⟨#[]⟩, .string ⟨#[110, 97, 109, 101]⟩, .string ⟨#[111, 114, 103]⟩, .string ⟨#[116, 101, 108]⟩, .string ⟨#[109, 97, 105, 108]⟩, .string ⟨#[100, 97, 121]⟩, .string ⟨#[110, 111, 116, 101]⟩] 9) := by
 go_enter Tryz.func89, Tryz.ntmps89
 go_wp2
 go_ret
 exact ⟨rfl, rfl⟩
theorem labels_any (w : World) : Calls Tryz.prog 90 #[] w fun e w' => e = .returned (.slice (some ⟨w.heap.size, 0, none⟩) 4 4) ∧ w' = w.alloc (.cells #[.string ⟨#[]⟩, .string ⟨#[59, 104, 111, 109, 101]⟩, .string ⟨#[59, 119, 111, 114, 107]⟩, .string ⟨#[59, 99, 101, 108, 108]⟩] 9) := by
 go_enter Tryz.func90, Tryz.ntmps90
 go_wp2
 go_ret
 exact ⟨rfl, rfl⟩
theorem rline_10 (v : ByteArray) (hs : v.size ≤ 1000000) (w : World) (hm : mayF 1 0 v = true) : Calls Tryz.prog 105 #[fieldV 1 0 v] w fun e w' => e = .returned (.string (lineF 1 0 v)) ∧ Below w.heap.size w w' := by
 have HX0 := Zh ((Bxs.start w).new 92 #[.int .i64 1, .int .i64 0, .string v]); have HC := Zh (fun w => frmay_any 1 0 v hs w); have hsI : (v.size : Int) ≤ 1000000 := by omega
 have H0 := Zh (show lineF 1 0 v = ((⟨#[110, 97, 109, 101]⟩ ++ ⟨#[]⟩) ++ ⟨#[58]⟩) ++ v by unfold lineF; rw [if_pos hm]; rfl); rw [hm] at HC; clear hm hs; have z1 : ((⟨#[110, 97, 109, 101]⟩ : ByteArray).size : Int) = 4 := rfl; have z2 : ((⟨#[]⟩ : ByteArray).size : Int) = 0 := rfl; have z4 : (((⟨#[110, 97, 109, 101]⟩ : ByteArray) ++ ⟨#[]⟩).size : Int) = 4 := rfl; have z5 : ((((⟨#[110, 97, 109, 101]⟩ : ByteArray) ++ ⟨#[]⟩) ++ (⟨#[58]⟩ : ByteArray)).size : Int) = 5 := rfl
 go_enter Tryz.func105, Tryz.ntmps105
 go_wp2_with (go_at_call 91; (with_reducible refine (HC.out _).mono ?_); rintro e w3 ⟨rfl, hb⟩; have HX3 := Zh (HX0.out.step hb); clear hb)
 have HV0 := Zh (HX3.out.drewN 1); have s0 := (HV0.out.get 0 rfl).cell 0; have s1 := (HV0.out.get 0 rfl).cell 1; have s2 := (HV0.out.get 0 rfl).cell 2; have zz : ¬ (9223372036854775807 : Int) < 5 + (v.size : Int) := by omega
 have zn : ¬ 9223372036854775807 < 5 + v.size := by omega
 refine wp_region_held_drew (S := (fun wr : World => wr.cell? ⟨w.heap.size, 0, none⟩ = some (.int .i64 1) ∧ wr.cell? ⟨w.heap.size, 1, none⟩ = some (.int .i64 0) ∧ wr.cell? ⟨w.heap.size, 2, none⟩ = some (.string v))) (by kernel_rfl) ⟨s0, s1, s2⟩ (fun hHeld => ?_); refine wpAnyH_take (i := 1) (v := ?_) rfl (by kernel_rfl) (by kernel_rfl) (by kernel_rfl) (fun _ _ _ h => h) (Or.inl ⟨by rfl, ?h1⟩) (by assumption) ?r1
 case h1 =>
  intro w hSw
  try dsimp only at hSw
  go_simp
  try with_reducible rfl
 try simp only [Act.put, List.setIfInBounds_toArray, List.set_cons_zero, List.set_cons_succ]
 refine wpAnyH_take (i := 2) (v := ?_) rfl (by kernel_rfl) (by kernel_rfl) (by kernel_rfl) (fun _ _ _ h => h) (Or.inl ⟨by rfl, ?h2⟩) (by assumption) ?r2
 case h2 =>
  intro w hSw
  try dsimp only at hSw
  go_simp
  try with_reducible rfl
 try simp only [Act.put, List.setIfInBounds_toArray, List.set_cons_zero, List.set_cons_succ]
 refine wpAnyH_take (i := 6) (v := ?_) rfl (by kernel_rfl) (by kernel_rfl) (by kernel_rfl) (fun _ _ _ h => h) (Or.inl ⟨by rfl, ?h6⟩) (by assumption) ?r6
 case h6 =>
  intro w hSw
  try dsimp only at hSw
  go_simp
  try with_reducible rfl
 try simp only [Act.put, List.setIfInBounds_toArray, List.set_cons_zero, List.set_cons_succ]
 refine wpAnyH_take (i := 7) (v := ?_) rfl (by kernel_rfl) (by kernel_rfl) (by kernel_rfl) (fun _ _ _ h => h) (Or.inl ⟨by rfl, ?h7⟩) (by assumption) ?r7
 case h7 =>
  intro w hSw
  try dsimp only at hSw
  go_simp
  try with_reducible rfl
 try simp only [Act.put, List.setIfInBounds_toArray, List.set_cons_zero, List.set_cons_succ]
 refine wpAnyH_take (i := 12) (v := ?_) rfl (by kernel_rfl) (by kernel_rfl) (by kernel_rfl) (fun _ _ _ h => h) (Or.inl ⟨by rfl, ?h12⟩) (by assumption) ?r12
 case h12 =>
  intro w hSw
  try dsimp only at hSw
  go_simp
  try with_reducible rfl
 try simp only [Act.put, List.setIfInBounds_toArray, List.set_cons_zero, List.set_cons_succ]
 refine wpAnyH_take (i := 13) (v := ?_) rfl (by kernel_rfl) (by kernel_rfl) (by kernel_rfl) (fun _ _ _ h => h) (Or.inl ⟨by rfl, ?h13⟩) (by assumption) ?r13
 case h13 =>
  intro w hSw
  try dsimp only at hSw
  go_simp
  try with_reducible rfl
 try simp only [Act.put, List.setIfInBounds_toArray, List.set_cons_zero, List.set_cons_succ]
 refine wpAnyH_ready (rs := [0]) (by kernel_rfl) (by simp) (AllReadyH.cons rfl (fun K hK => ?_) AllReadyH.nil)
 go_simp
 go_at_call 89; (with_reducible refine (words_any _).mono ?_); rintro _ x4 ⟨rfl, hb⟩; have HX4 := Zh (show Bxs w x4 _ from hb ▸ HV0.out.put 9 #[.string ⟨#[]⟩, .string ⟨#[110, 97, 109, 101]⟩, .string ⟨#[111, 114, 103]⟩, .string ⟨#[116, 101, 108]⟩, .string ⟨#[109, 97, 105, 108]⟩, .string ⟨#[100, 97, 121]⟩, .string ⟨#[110, 111, 116, 101]⟩] w3.heap.size rfl); have c40 := (HX4.out.get 0 rfl).cell 0; have c41 := (HX4.out.get 0 rfl).cell 1; have c42 := (HX4.out.get 0 rfl).cell 2; have c1 := (HX4.out.get 1 rfl).cell 1; clear hb
 try go_wp2_with fail
 refine hK.out _ _ ⟨c40, c41, c42⟩ (fun hHeld => ?_); clear hK K hHeld
 try simp only [Act.put, List.setIfInBounds_toArray, List.set_cons_zero, List.set_cons_succ]
 refine wpAnyH_more (T := (fun wr : World => wr.cell? ⟨w.heap.size, 0, none⟩ = some (.int .i64 1) ∧ wr.cell? ⟨w.heap.size, 1, none⟩ = some (.int .i64 0) ∧ wr.cell? ⟨w.heap.size, 2, none⟩ = some (.string v) ∧ wr.cell? ⟨w3.heap.size, 1, none⟩ = some (.string ⟨#[110, 97, 109, 101]⟩))) (fun w h => ⟨h.1, h.2.1, h.2.2.1⟩) _ _ _ _ ?_; have hHeld : ((fun wr : World => wr.cell? ⟨w.heap.size, 0, none⟩ = some (.int .i64 1) ∧ wr.cell? ⟨w.heap.size, 1, none⟩ = some (.int .i64 0) ∧ wr.cell? ⟨w.heap.size, 2, none⟩ = some (.string v) ∧ wr.cell? ⟨w3.heap.size, 1, none⟩ = some (.string ⟨#[110, 97, 109, 101]⟩))) _ := ⟨c40, c41, c42, c1⟩; refine wpAnyH_take (i := 3) (v := ?_) rfl (by kernel_rfl) (by kernel_rfl) (by kernel_rfl) (fun _ _ _ h => h) (Or.inl ⟨by rfl, ?h3⟩) (by assumption) ?r3
 case h3 =>
  intro w hSw
  try dsimp only at hSw
  go_simp
  try with_reducible rfl
 try simp only [Act.put, List.setIfInBounds_toArray, List.set_cons_zero, List.set_cons_succ]
 refine wpAnyH_take (i := 4) (v := ?_) rfl (by kernel_rfl) (by kernel_rfl) (by kernel_rfl) (fun _ _ _ h => h) (Or.inl ⟨by rfl, ?h4⟩) (by assumption) ?r4
 case h4 =>
  intro w hSw
  try dsimp only at hSw
  go_simp
  try with_reducible rfl
 try simp only [Act.put, List.setIfInBounds_toArray, List.set_cons_zero, List.set_cons_succ]
 refine wpAnyH_ready (rs := [5]) (by kernel_rfl) (by simp) (AllReadyH.cons rfl (fun K hK => ?_) AllReadyH.nil)
 go_simp
 go_at_call 90; (with_reducible refine (labels_any _).mono ?_); rintro _ x5 ⟨rfl, hb⟩; have HX5 := Zh (show Bxs w x5 _ from hb ▸ HX4.out.put 9 #[.string ⟨#[]⟩, .string ⟨#[59, 104, 111, 109, 101]⟩, .string ⟨#[59, 119, 111, 114, 107]⟩, .string ⟨#[59, 99, 101, 108, 108]⟩] x4.heap.size rfl); have c50 := (HX5.out.get 0 rfl).cell 0; have c51 := (HX5.out.get 0 rfl).cell 1; have c52 := (HX5.out.get 0 rfl).cell 2; have c2 := (HX5.out.get 1 rfl).cell 1; have c3 := (HX5.out.get 2 rfl).cell 0; clear hb
 try go_wp2_with fail
 refine hK.out _ _ ⟨c50, c51, c52, c2⟩ (fun hHeld => ?_); clear hK K hHeld
 try simp only [Act.put, List.setIfInBounds_toArray, List.set_cons_zero, List.set_cons_succ]
 refine wpAnyH_more (T := (fun wr : World => wr.cell? ⟨w.heap.size, 0, none⟩ = some (.int .i64 1) ∧ wr.cell? ⟨w.heap.size, 1, none⟩ = some (.int .i64 0) ∧ wr.cell? ⟨w.heap.size, 2, none⟩ = some (.string v) ∧ wr.cell? ⟨w3.heap.size, 1, none⟩ = some (.string ⟨#[110, 97, 109, 101]⟩) ∧ wr.cell? ⟨x4.heap.size, 0, none⟩ = some (.string ⟨#[]⟩))) (fun w h => ⟨h.1, h.2.1, h.2.2.1, h.2.2.2.1⟩) _ _ _ _ ?_; have hHeld : ((fun wr : World => wr.cell? ⟨w.heap.size, 0, none⟩ = some (.int .i64 1) ∧ wr.cell? ⟨w.heap.size, 1, none⟩ = some (.int .i64 0) ∧ wr.cell? ⟨w.heap.size, 2, none⟩ = some (.string v) ∧ wr.cell? ⟨w3.heap.size, 1, none⟩ = some (.string ⟨#[110, 97, 109, 101]⟩) ∧ wr.cell? ⟨x4.heap.size, 0, none⟩ = some (.string ⟨#[]⟩))) _ := ⟨c50, c51, c52, c2, c3⟩; refine wpAnyH_take (i := 8) (v := ?_) rfl (by kernel_rfl) (by kernel_rfl) (by kernel_rfl) (fun _ _ _ h => h) (Or.inl ⟨by rfl, ?h8⟩) (by assumption) ?r8
 case h8 =>
  intro w hSw
  try dsimp only at hSw
  go_simp
  try with_reducible rfl
 try simp only [Act.put, List.setIfInBounds_toArray, List.set_cons_zero, List.set_cons_succ]
 refine wpAnyH_take (i := 9) (v := ?_) rfl (by kernel_rfl) (by kernel_rfl) (by kernel_rfl) (fun _ _ _ h => h) (Or.inl ⟨by rfl, ?h9⟩) (by assumption) ?r9
 case h9 =>
  intro w hSw
  try dsimp only at hSw
  go_simp
  try with_reducible rfl
 try simp only [Act.put, List.setIfInBounds_toArray, List.set_cons_zero, List.set_cons_succ]
 refine wpAnyH_take (i := 10) (v := ?_) rfl (by kernel_rfl) (by kernel_rfl) (by kernel_rfl) (fun _ _ _ h => h) (Or.inl ⟨by rfl, ?h10⟩) (by assumption) ?r10
 case h10 =>
  intro w hSw
  try dsimp only at hSw
  go_simp
  try with_reducible rfl
 try simp only [Act.put, List.setIfInBounds_toArray, List.set_cons_zero, List.set_cons_succ]
 refine wpAnyH_take (i := 11) (v := ?_) rfl (by kernel_rfl) (by kernel_rfl) (by kernel_rfl) (fun _ _ _ h => h) (Or.inl ⟨by rfl, ?h11⟩) (by assumption) ?r11
 case h11 =>
  intro w hSw
  try dsimp only at hSw
  go_simp
  try with_reducible rfl
 try simp only [Act.put, List.setIfInBounds_toArray, List.set_cons_zero, List.set_cons_succ]
 refine wpAnyH_take (i := 14) (v := ?_) rfl (by kernel_rfl) (by kernel_rfl) (by kernel_rfl) (fun _ _ _ h => h) (Or.inl ⟨by rfl, ?h14⟩) (by assumption) ?r14
 case h14 =>
  intro w hSw
  try dsimp only at hSw
  go_simp
  try with_reducible rfl
 try simp only [Act.put, List.setIfInBounds_toArray, List.set_cons_zero, List.set_cons_succ]
 refine wpAnyH_take (i := 15) (v := ?_) rfl (by kernel_rfl) (by kernel_rfl) (by kernel_rfl) (fun _ _ _ h => h) (Or.inl ⟨by rfl, ?h15⟩) (by assumption) ?r15
 case h15 =>
  intro w hSw
  try dsimp only at hSw
  go_simp
  try with_reducible rfl
 try simp only [Act.put, List.setIfInBounds_toArray, List.set_cons_zero, List.set_cons_succ]
 refine wpAnyH_done (by kernel_rfl) ?_ _
 go_wp2
 go_ret
 exact ⟨by rw [H0.out]; rfl, HX5.out.bel⟩
theorem rline_20 (v : ByteArray) (hs : v.size ≤ 1000000) (w : World) (hm : mayF 2 0 v = true) : Calls Tryz.prog 105 #[fieldV 2 0 v] w fun e w' => e = .returned (.string (lineF 2 0 v)) ∧ Below w.heap.size w w' := by
 have HX0 := Zh ((Bxs.start w).new 92 #[.int .i64 2, .int .i64 0, .string v]); have HC := Zh (fun w => frmay_any 2 0 v hs w); have hsI : (v.size : Int) ≤ 1000000 := by omega
 have H0 := Zh (show lineF 2 0 v = ((⟨#[111, 114, 103]⟩ ++ ⟨#[]⟩) ++ ⟨#[58]⟩) ++ v by unfold lineF; rw [if_pos hm]; rfl); rw [hm] at HC; clear hm hs; have z1 : ((⟨#[111, 114, 103]⟩ : ByteArray).size : Int) = 3 := rfl; have z2 : ((⟨#[]⟩ : ByteArray).size : Int) = 0 := rfl; have z4 : (((⟨#[111, 114, 103]⟩ : ByteArray) ++ ⟨#[]⟩).size : Int) = 3 := rfl; have z5 : ((((⟨#[111, 114, 103]⟩ : ByteArray) ++ ⟨#[]⟩) ++ (⟨#[58]⟩ : ByteArray)).size : Int) = 4 := rfl
 go_enter Tryz.func105, Tryz.ntmps105
 go_wp2_with (go_at_call 91; (with_reducible refine (HC.out _).mono ?_); rintro e w3 ⟨rfl, hb⟩; have HX3 := Zh (HX0.out.step hb); clear hb)
 have HV0 := Zh (HX3.out.drewN 1); have s0 := (HV0.out.get 0 rfl).cell 0; have s1 := (HV0.out.get 0 rfl).cell 1; have s2 := (HV0.out.get 0 rfl).cell 2; have zz : ¬ (9223372036854775807 : Int) < 4 + (v.size : Int) := by omega
 have zn : ¬ 9223372036854775807 < 4 + v.size := by omega
 refine wp_region_held_drew (S := (fun wr : World => wr.cell? ⟨w.heap.size, 0, none⟩ = some (.int .i64 2) ∧ wr.cell? ⟨w.heap.size, 1, none⟩ = some (.int .i64 0) ∧ wr.cell? ⟨w.heap.size, 2, none⟩ = some (.string v))) (by kernel_rfl) ⟨s0, s1, s2⟩ (fun hHeld => ?_); refine wpAnyH_take (i := 1) (v := ?_) rfl (by kernel_rfl) (by kernel_rfl) (by kernel_rfl) (fun _ _ _ h => h) (Or.inl ⟨by rfl, ?h1⟩) (by assumption) ?r1
 case h1 =>
  intro w hSw
  try dsimp only at hSw
  go_simp
  try with_reducible rfl
 try simp only [Act.put, List.setIfInBounds_toArray, List.set_cons_zero, List.set_cons_succ]
 refine wpAnyH_take (i := 2) (v := ?_) rfl (by kernel_rfl) (by kernel_rfl) (by kernel_rfl) (fun _ _ _ h => h) (Or.inl ⟨by rfl, ?h2⟩) (by assumption) ?r2
 case h2 =>
  intro w hSw
  try dsimp only at hSw
  go_simp
  try with_reducible rfl
 try simp only [Act.put, List.setIfInBounds_toArray, List.set_cons_zero, List.set_cons_succ]
 refine wpAnyH_take (i := 6) (v := ?_) rfl (by kernel_rfl) (by kernel_rfl) (by kernel_rfl) (fun _ _ _ h => h) (Or.inl ⟨by rfl, ?h6⟩) (by assumption) ?r6
 case h6 =>
  intro w hSw
  try dsimp only at hSw
  go_simp
  try with_reducible rfl
 try simp only [Act.put, List.setIfInBounds_toArray, List.set_cons_zero, List.set_cons_succ]
 refine wpAnyH_take (i := 7) (v := ?_) rfl (by kernel_rfl) (by kernel_rfl) (by kernel_rfl) (fun _ _ _ h => h) (Or.inl ⟨by rfl, ?h7⟩) (by assumption) ?r7
 case h7 =>
  intro w hSw
  try dsimp only at hSw
  go_simp
  try with_reducible rfl
 try simp only [Act.put, List.setIfInBounds_toArray, List.set_cons_zero, List.set_cons_succ]
 refine wpAnyH_take (i := 12) (v := ?_) rfl (by kernel_rfl) (by kernel_rfl) (by kernel_rfl) (fun _ _ _ h => h) (Or.inl ⟨by rfl, ?h12⟩) (by assumption) ?r12
 case h12 =>
  intro w hSw
  try dsimp only at hSw
  go_simp
  try with_reducible rfl
 try simp only [Act.put, List.setIfInBounds_toArray, List.set_cons_zero, List.set_cons_succ]
 refine wpAnyH_take (i := 13) (v := ?_) rfl (by kernel_rfl) (by kernel_rfl) (by kernel_rfl) (fun _ _ _ h => h) (Or.inl ⟨by rfl, ?h13⟩) (by assumption) ?r13
 case h13 =>
  intro w hSw
  try dsimp only at hSw
  go_simp
  try with_reducible rfl
 try simp only [Act.put, List.setIfInBounds_toArray, List.set_cons_zero, List.set_cons_succ]
 refine wpAnyH_ready (rs := [0]) (by kernel_rfl) (by simp) (AllReadyH.cons rfl (fun K hK => ?_) AllReadyH.nil)
 go_simp
 go_at_call 89; (with_reducible refine (words_any _).mono ?_); rintro _ x4 ⟨rfl, hb⟩; have HX4 := Zh (show Bxs w x4 _ from hb ▸ HV0.out.put 9 #[.string ⟨#[]⟩, .string ⟨#[110, 97, 109, 101]⟩, .string ⟨#[111, 114, 103]⟩, .string ⟨#[116, 101, 108]⟩, .string ⟨#[109, 97, 105, 108]⟩, .string ⟨#[100, 97, 121]⟩, .string ⟨#[110, 111, 116, 101]⟩] w3.heap.size rfl); have c40 := (HX4.out.get 0 rfl).cell 0; have c41 := (HX4.out.get 0 rfl).cell 1; have c42 := (HX4.out.get 0 rfl).cell 2; have c1 := (HX4.out.get 1 rfl).cell 2; clear hb
 try go_wp2_with fail
 refine hK.out _ _ ⟨c40, c41, c42⟩ (fun hHeld => ?_); clear hK K hHeld
 try simp only [Act.put, List.setIfInBounds_toArray, List.set_cons_zero, List.set_cons_succ]
 refine wpAnyH_more (T := (fun wr : World => wr.cell? ⟨w.heap.size, 0, none⟩ = some (.int .i64 2) ∧ wr.cell? ⟨w.heap.size, 1, none⟩ = some (.int .i64 0) ∧ wr.cell? ⟨w.heap.size, 2, none⟩ = some (.string v) ∧ wr.cell? ⟨w3.heap.size, 2, none⟩ = some (.string ⟨#[111, 114, 103]⟩))) (fun w h => ⟨h.1, h.2.1, h.2.2.1⟩) _ _ _ _ ?_; have hHeld : ((fun wr : World => wr.cell? ⟨w.heap.size, 0, none⟩ = some (.int .i64 2) ∧ wr.cell? ⟨w.heap.size, 1, none⟩ = some (.int .i64 0) ∧ wr.cell? ⟨w.heap.size, 2, none⟩ = some (.string v) ∧ wr.cell? ⟨w3.heap.size, 2, none⟩ = some (.string ⟨#[111, 114, 103]⟩))) _ := ⟨c40, c41, c42, c1⟩; refine wpAnyH_take (i := 3) (v := ?_) rfl (by kernel_rfl) (by kernel_rfl) (by kernel_rfl) (fun _ _ _ h => h) (Or.inl ⟨by rfl, ?h3⟩) (by assumption) ?r3
 case h3 =>
  intro w hSw
  try dsimp only at hSw
  go_simp
  try with_reducible rfl
 try simp only [Act.put, List.setIfInBounds_toArray, List.set_cons_zero, List.set_cons_succ]
 refine wpAnyH_take (i := 4) (v := ?_) rfl (by kernel_rfl) (by kernel_rfl) (by kernel_rfl) (fun _ _ _ h => h) (Or.inl ⟨by rfl, ?h4⟩) (by assumption) ?r4
 case h4 =>
  intro w hSw
  try dsimp only at hSw
  go_simp
  try with_reducible rfl
 try simp only [Act.put, List.setIfInBounds_toArray, List.set_cons_zero, List.set_cons_succ]
 refine wpAnyH_ready (rs := [5]) (by kernel_rfl) (by simp) (AllReadyH.cons rfl (fun K hK => ?_) AllReadyH.nil)
 go_simp
 go_at_call 90; (with_reducible refine (labels_any _).mono ?_); rintro _ x5 ⟨rfl, hb⟩; have HX5 := Zh (show Bxs w x5 _ from hb ▸ HX4.out.put 9 #[.string ⟨#[]⟩, .string ⟨#[59, 104, 111, 109, 101]⟩, .string ⟨#[59, 119, 111, 114, 107]⟩, .string ⟨#[59, 99, 101, 108, 108]⟩] x4.heap.size rfl); have c50 := (HX5.out.get 0 rfl).cell 0; have c51 := (HX5.out.get 0 rfl).cell 1; have c52 := (HX5.out.get 0 rfl).cell 2; have c2 := (HX5.out.get 1 rfl).cell 2; have c3 := (HX5.out.get 2 rfl).cell 0; clear hb
 try go_wp2_with fail
 refine hK.out _ _ ⟨c50, c51, c52, c2⟩ (fun hHeld => ?_); clear hK K hHeld
 try simp only [Act.put, List.setIfInBounds_toArray, List.set_cons_zero, List.set_cons_succ]
 refine wpAnyH_more (T := (fun wr : World => wr.cell? ⟨w.heap.size, 0, none⟩ = some (.int .i64 2) ∧ wr.cell? ⟨w.heap.size, 1, none⟩ = some (.int .i64 0) ∧ wr.cell? ⟨w.heap.size, 2, none⟩ = some (.string v) ∧ wr.cell? ⟨w3.heap.size, 2, none⟩ = some (.string ⟨#[111, 114, 103]⟩) ∧ wr.cell? ⟨x4.heap.size, 0, none⟩ = some (.string ⟨#[]⟩))) (fun w h => ⟨h.1, h.2.1, h.2.2.1, h.2.2.2.1⟩) _ _ _ _ ?_; have hHeld : ((fun wr : World => wr.cell? ⟨w.heap.size, 0, none⟩ = some (.int .i64 2) ∧ wr.cell? ⟨w.heap.size, 1, none⟩ = some (.int .i64 0) ∧ wr.cell? ⟨w.heap.size, 2, none⟩ = some (.string v) ∧ wr.cell? ⟨w3.heap.size, 2, none⟩ = some (.string ⟨#[111, 114, 103]⟩) ∧ wr.cell? ⟨x4.heap.size, 0, none⟩ = some (.string ⟨#[]⟩))) _ := ⟨c50, c51, c52, c2, c3⟩; refine wpAnyH_take (i := 8) (v := ?_) rfl (by kernel_rfl) (by kernel_rfl) (by kernel_rfl) (fun _ _ _ h => h) (Or.inl ⟨by rfl, ?h8⟩) (by assumption) ?r8
 case h8 =>
  intro w hSw
  try dsimp only at hSw
  go_simp
  try with_reducible rfl
 try simp only [Act.put, List.setIfInBounds_toArray, List.set_cons_zero, List.set_cons_succ]
 refine wpAnyH_take (i := 9) (v := ?_) rfl (by kernel_rfl) (by kernel_rfl) (by kernel_rfl) (fun _ _ _ h => h) (Or.inl ⟨by rfl, ?h9⟩) (by assumption) ?r9
 case h9 =>
  intro w hSw
  try dsimp only at hSw
  go_simp
  try with_reducible rfl
 try simp only [Act.put, List.setIfInBounds_toArray, List.set_cons_zero, List.set_cons_succ]
 refine wpAnyH_take (i := 10) (v := ?_) rfl (by kernel_rfl) (by kernel_rfl) (by kernel_rfl) (fun _ _ _ h => h) (Or.inl ⟨by rfl, ?h10⟩) (by assumption) ?r10
 case h10 =>
  intro w hSw
  try dsimp only at hSw
  go_simp
  try with_reducible rfl
 try simp only [Act.put, List.setIfInBounds_toArray, List.set_cons_zero, List.set_cons_succ]
 refine wpAnyH_take (i := 11) (v := ?_) rfl (by kernel_rfl) (by kernel_rfl) (by kernel_rfl) (fun _ _ _ h => h) (Or.inl ⟨by rfl, ?h11⟩) (by assumption) ?r11
 case h11 =>
  intro w hSw
  try dsimp only at hSw
  go_simp
  try with_reducible rfl
 try simp only [Act.put, List.setIfInBounds_toArray, List.set_cons_zero, List.set_cons_succ]
 refine wpAnyH_take (i := 14) (v := ?_) rfl (by kernel_rfl) (by kernel_rfl) (by kernel_rfl) (fun _ _ _ h => h) (Or.inl ⟨by rfl, ?h14⟩) (by assumption) ?r14
 case h14 =>
  intro w hSw
  try dsimp only at hSw
  go_simp
  try with_reducible rfl
 try simp only [Act.put, List.setIfInBounds_toArray, List.set_cons_zero, List.set_cons_succ]
 refine wpAnyH_take (i := 15) (v := ?_) rfl (by kernel_rfl) (by kernel_rfl) (by kernel_rfl) (fun _ _ _ h => h) (Or.inl ⟨by rfl, ?h15⟩) (by assumption) ?r15
 case h15 =>
  intro w hSw
  try dsimp only at hSw
  go_simp
  try with_reducible rfl
 try simp only [Act.put, List.setIfInBounds_toArray, List.set_cons_zero, List.set_cons_succ]
 refine wpAnyH_done (by kernel_rfl) ?_ _
 go_wp2
 go_ret
 exact ⟨by rw [H0.out]; rfl, HX5.out.bel⟩
theorem rline_30 (v : ByteArray) (hs : v.size ≤ 1000000) (w : World) (hm : mayF 3 0 v = true) : Calls Tryz.prog 105 #[fieldV 3 0 v] w fun e w' => e = .returned (.string (lineF 3 0 v)) ∧ Below w.heap.size w w' := by
 have HX0 := Zh ((Bxs.start w).new 92 #[.int .i64 3, .int .i64 0, .string v]); have HC := Zh (fun w => frmay_any 3 0 v hs w); have hsI : (v.size : Int) ≤ 1000000 := by omega
 have H0 := Zh (show lineF 3 0 v = ((⟨#[116, 101, 108]⟩ ++ ⟨#[]⟩) ++ ⟨#[58]⟩) ++ v by unfold lineF; rw [if_pos hm]; rfl); rw [hm] at HC; clear hm hs; have z1 : ((⟨#[116, 101, 108]⟩ : ByteArray).size : Int) = 3 := rfl; have z2 : ((⟨#[]⟩ : ByteArray).size : Int) = 0 := rfl; have z4 : (((⟨#[116, 101, 108]⟩ : ByteArray) ++ ⟨#[]⟩).size : Int) = 3 := rfl; have z5 : ((((⟨#[116, 101, 108]⟩ : ByteArray) ++ ⟨#[]⟩) ++ (⟨#[58]⟩ : ByteArray)).size : Int) = 4 := rfl
 go_enter Tryz.func105, Tryz.ntmps105
 go_wp2_with (go_at_call 91; (with_reducible refine (HC.out _).mono ?_); rintro e w3 ⟨rfl, hb⟩; have HX3 := Zh (HX0.out.step hb); clear hb)
 have HV0 := Zh (HX3.out.drewN 1); have s0 := (HV0.out.get 0 rfl).cell 0; have s1 := (HV0.out.get 0 rfl).cell 1; have s2 := (HV0.out.get 0 rfl).cell 2; have zz : ¬ (9223372036854775807 : Int) < 4 + (v.size : Int) := by omega
 have zn : ¬ 9223372036854775807 < 4 + v.size := by omega
 refine wp_region_held_drew (S := (fun wr : World => wr.cell? ⟨w.heap.size, 0, none⟩ = some (.int .i64 3) ∧ wr.cell? ⟨w.heap.size, 1, none⟩ = some (.int .i64 0) ∧ wr.cell? ⟨w.heap.size, 2, none⟩ = some (.string v))) (by kernel_rfl) ⟨s0, s1, s2⟩ (fun hHeld => ?_); refine wpAnyH_take (i := 1) (v := ?_) rfl (by kernel_rfl) (by kernel_rfl) (by kernel_rfl) (fun _ _ _ h => h) (Or.inl ⟨by rfl, ?h1⟩) (by assumption) ?r1
 case h1 =>
  intro w hSw
  try dsimp only at hSw
  go_simp
  try with_reducible rfl
 try simp only [Act.put, List.setIfInBounds_toArray, List.set_cons_zero, List.set_cons_succ]
 refine wpAnyH_take (i := 2) (v := ?_) rfl (by kernel_rfl) (by kernel_rfl) (by kernel_rfl) (fun _ _ _ h => h) (Or.inl ⟨by rfl, ?h2⟩) (by assumption) ?r2
 case h2 =>
  intro w hSw
  try dsimp only at hSw
  go_simp
  try with_reducible rfl
 try simp only [Act.put, List.setIfInBounds_toArray, List.set_cons_zero, List.set_cons_succ]
 refine wpAnyH_take (i := 6) (v := ?_) rfl (by kernel_rfl) (by kernel_rfl) (by kernel_rfl) (fun _ _ _ h => h) (Or.inl ⟨by rfl, ?h6⟩) (by assumption) ?r6
 case h6 =>
  intro w hSw
  try dsimp only at hSw
  go_simp
  try with_reducible rfl
 try simp only [Act.put, List.setIfInBounds_toArray, List.set_cons_zero, List.set_cons_succ]
 refine wpAnyH_take (i := 7) (v := ?_) rfl (by kernel_rfl) (by kernel_rfl) (by kernel_rfl) (fun _ _ _ h => h) (Or.inl ⟨by rfl, ?h7⟩) (by assumption) ?r7
 case h7 =>
  intro w hSw
  try dsimp only at hSw
  go_simp
  try with_reducible rfl
 try simp only [Act.put, List.setIfInBounds_toArray, List.set_cons_zero, List.set_cons_succ]
 refine wpAnyH_take (i := 12) (v := ?_) rfl (by kernel_rfl) (by kernel_rfl) (by kernel_rfl) (fun _ _ _ h => h) (Or.inl ⟨by rfl, ?h12⟩) (by assumption) ?r12
 case h12 =>
  intro w hSw
  try dsimp only at hSw
  go_simp
  try with_reducible rfl
 try simp only [Act.put, List.setIfInBounds_toArray, List.set_cons_zero, List.set_cons_succ]
 refine wpAnyH_take (i := 13) (v := ?_) rfl (by kernel_rfl) (by kernel_rfl) (by kernel_rfl) (fun _ _ _ h => h) (Or.inl ⟨by rfl, ?h13⟩) (by assumption) ?r13
 case h13 =>
  intro w hSw
  try dsimp only at hSw
  go_simp
  try with_reducible rfl
 try simp only [Act.put, List.setIfInBounds_toArray, List.set_cons_zero, List.set_cons_succ]
 refine wpAnyH_ready (rs := [0]) (by kernel_rfl) (by simp) (AllReadyH.cons rfl (fun K hK => ?_) AllReadyH.nil)
 go_simp
 go_at_call 89; (with_reducible refine (words_any _).mono ?_); rintro _ x4 ⟨rfl, hb⟩; have HX4 := Zh (show Bxs w x4 _ from hb ▸ HV0.out.put 9 #[.string ⟨#[]⟩, .string ⟨#[110, 97, 109, 101]⟩, .string ⟨#[111, 114, 103]⟩, .string ⟨#[116, 101, 108]⟩, .string ⟨#[109, 97, 105, 108]⟩, .string ⟨#[100, 97, 121]⟩, .string ⟨#[110, 111, 116, 101]⟩] w3.heap.size rfl); have c40 := (HX4.out.get 0 rfl).cell 0; have c41 := (HX4.out.get 0 rfl).cell 1; have c42 := (HX4.out.get 0 rfl).cell 2; have c1 := (HX4.out.get 1 rfl).cell 3; clear hb
 try go_wp2_with fail
 refine hK.out _ _ ⟨c40, c41, c42⟩ (fun hHeld => ?_); clear hK K hHeld
 try simp only [Act.put, List.setIfInBounds_toArray, List.set_cons_zero, List.set_cons_succ]
 refine wpAnyH_more (T := (fun wr : World => wr.cell? ⟨w.heap.size, 0, none⟩ = some (.int .i64 3) ∧ wr.cell? ⟨w.heap.size, 1, none⟩ = some (.int .i64 0) ∧ wr.cell? ⟨w.heap.size, 2, none⟩ = some (.string v) ∧ wr.cell? ⟨w3.heap.size, 3, none⟩ = some (.string ⟨#[116, 101, 108]⟩))) (fun w h => ⟨h.1, h.2.1, h.2.2.1⟩) _ _ _ _ ?_; have hHeld : ((fun wr : World => wr.cell? ⟨w.heap.size, 0, none⟩ = some (.int .i64 3) ∧ wr.cell? ⟨w.heap.size, 1, none⟩ = some (.int .i64 0) ∧ wr.cell? ⟨w.heap.size, 2, none⟩ = some (.string v) ∧ wr.cell? ⟨w3.heap.size, 3, none⟩ = some (.string ⟨#[116, 101, 108]⟩))) _ := ⟨c40, c41, c42, c1⟩; refine wpAnyH_take (i := 3) (v := ?_) rfl (by kernel_rfl) (by kernel_rfl) (by kernel_rfl) (fun _ _ _ h => h) (Or.inl ⟨by rfl, ?h3⟩) (by assumption) ?r3
 case h3 =>
  intro w hSw
  try dsimp only at hSw
  go_simp
  try with_reducible rfl
 try simp only [Act.put, List.setIfInBounds_toArray, List.set_cons_zero, List.set_cons_succ]
 refine wpAnyH_take (i := 4) (v := ?_) rfl (by kernel_rfl) (by kernel_rfl) (by kernel_rfl) (fun _ _ _ h => h) (Or.inl ⟨by rfl, ?h4⟩) (by assumption) ?r4
 case h4 =>
  intro w hSw
  try dsimp only at hSw
  go_simp
  try with_reducible rfl
 try simp only [Act.put, List.setIfInBounds_toArray, List.set_cons_zero, List.set_cons_succ]
 refine wpAnyH_ready (rs := [5]) (by kernel_rfl) (by simp) (AllReadyH.cons rfl (fun K hK => ?_) AllReadyH.nil)
 go_simp
 go_at_call 90; (with_reducible refine (labels_any _).mono ?_); rintro _ x5 ⟨rfl, hb⟩; have HX5 := Zh (show Bxs w x5 _ from hb ▸ HX4.out.put 9 #[.string ⟨#[]⟩, .string ⟨#[59, 104, 111, 109, 101]⟩, .string ⟨#[59, 119, 111, 114, 107]⟩, .string ⟨#[59, 99, 101, 108, 108]⟩] x4.heap.size rfl); have c50 := (HX5.out.get 0 rfl).cell 0; have c51 := (HX5.out.get 0 rfl).cell 1; have c52 := (HX5.out.get 0 rfl).cell 2; have c2 := (HX5.out.get 1 rfl).cell 3; have c3 := (HX5.out.get 2 rfl).cell 0; clear hb
 try go_wp2_with fail
 refine hK.out _ _ ⟨c50, c51, c52, c2⟩ (fun hHeld => ?_); clear hK K hHeld
 try simp only [Act.put, List.setIfInBounds_toArray, List.set_cons_zero, List.set_cons_succ]
 refine wpAnyH_more (T := (fun wr : World => wr.cell? ⟨w.heap.size, 0, none⟩ = some (.int .i64 3) ∧ wr.cell? ⟨w.heap.size, 1, none⟩ = some (.int .i64 0) ∧ wr.cell? ⟨w.heap.size, 2, none⟩ = some (.string v) ∧ wr.cell? ⟨w3.heap.size, 3, none⟩ = some (.string ⟨#[116, 101, 108]⟩) ∧ wr.cell? ⟨x4.heap.size, 0, none⟩ = some (.string ⟨#[]⟩))) (fun w h => ⟨h.1, h.2.1, h.2.2.1, h.2.2.2.1⟩) _ _ _ _ ?_; have hHeld : ((fun wr : World => wr.cell? ⟨w.heap.size, 0, none⟩ = some (.int .i64 3) ∧ wr.cell? ⟨w.heap.size, 1, none⟩ = some (.int .i64 0) ∧ wr.cell? ⟨w.heap.size, 2, none⟩ = some (.string v) ∧ wr.cell? ⟨w3.heap.size, 3, none⟩ = some (.string ⟨#[116, 101, 108]⟩) ∧ wr.cell? ⟨x4.heap.size, 0, none⟩ = some (.string ⟨#[]⟩))) _ := ⟨c50, c51, c52, c2, c3⟩; refine wpAnyH_take (i := 8) (v := ?_) rfl (by kernel_rfl) (by kernel_rfl) (by kernel_rfl) (fun _ _ _ h => h) (Or.inl ⟨by rfl, ?h8⟩) (by assumption) ?r8
 case h8 =>
  intro w hSw
  try dsimp only at hSw
  go_simp
  try with_reducible rfl
 try simp only [Act.put, List.setIfInBounds_toArray, List.set_cons_zero, List.set_cons_succ]
 refine wpAnyH_take (i := 9) (v := ?_) rfl (by kernel_rfl) (by kernel_rfl) (by kernel_rfl) (fun _ _ _ h => h) (Or.inl ⟨by rfl, ?h9⟩) (by assumption) ?r9
 case h9 =>
  intro w hSw
  try dsimp only at hSw
  go_simp
  try with_reducible rfl
 try simp only [Act.put, List.setIfInBounds_toArray, List.set_cons_zero, List.set_cons_succ]
 refine wpAnyH_take (i := 10) (v := ?_) rfl (by kernel_rfl) (by kernel_rfl) (by kernel_rfl) (fun _ _ _ h => h) (Or.inl ⟨by rfl, ?h10⟩) (by assumption) ?r10
 case h10 =>
  intro w hSw
  try dsimp only at hSw
  go_simp
  try with_reducible rfl
 try simp only [Act.put, List.setIfInBounds_toArray, List.set_cons_zero, List.set_cons_succ]
 refine wpAnyH_take (i := 11) (v := ?_) rfl (by kernel_rfl) (by kernel_rfl) (by kernel_rfl) (fun _ _ _ h => h) (Or.inl ⟨by rfl, ?h11⟩) (by assumption) ?r11
 case h11 =>
  intro w hSw
  try dsimp only at hSw
  go_simp
  try with_reducible rfl
 try simp only [Act.put, List.setIfInBounds_toArray, List.set_cons_zero, List.set_cons_succ]
 refine wpAnyH_take (i := 14) (v := ?_) rfl (by kernel_rfl) (by kernel_rfl) (by kernel_rfl) (fun _ _ _ h => h) (Or.inl ⟨by rfl, ?h14⟩) (by assumption) ?r14
 case h14 =>
  intro w hSw
  try dsimp only at hSw
  go_simp
  try with_reducible rfl
 try simp only [Act.put, List.setIfInBounds_toArray, List.set_cons_zero, List.set_cons_succ]
 refine wpAnyH_take (i := 15) (v := ?_) rfl (by kernel_rfl) (by kernel_rfl) (by kernel_rfl) (fun _ _ _ h => h) (Or.inl ⟨by rfl, ?h15⟩) (by assumption) ?r15
 case h15 =>
  intro w hSw
  try dsimp only at hSw
  go_simp
  try with_reducible rfl
 try simp only [Act.put, List.setIfInBounds_toArray, List.set_cons_zero, List.set_cons_succ]
 refine wpAnyH_done (by kernel_rfl) ?_ _
 go_wp2
 go_ret
 exact ⟨by rw [H0.out]; rfl, HX5.out.bel⟩
theorem rline_31 (v : ByteArray) (hs : v.size ≤ 1000000) (w : World) (hm : mayF 3 1 v = true) : Calls Tryz.prog 105 #[fieldV 3 1 v] w fun e w' => e = .returned (.string (lineF 3 1 v)) ∧ Below w.heap.size w w' := by
 have HX0 := Zh ((Bxs.start w).new 92 #[.int .i64 3, .int .i64 1, .string v]); have HC := Zh (fun w => frmay_any 3 1 v hs w); have hsI : (v.size : Int) ≤ 1000000 := by omega
 have H0 := Zh (show lineF 3 1 v = ((⟨#[116, 101, 108]⟩ ++ ⟨#[59, 104, 111, 109, 101]⟩) ++ ⟨#[58]⟩) ++ v by unfold lineF; rw [if_pos hm]; rfl); rw [hm] at HC; clear hm hs; have z1 : ((⟨#[116, 101, 108]⟩ : ByteArray).size : Int) = 3 := rfl; have z2 : ((⟨#[59, 104, 111, 109, 101]⟩ : ByteArray).size : Int) = 5 := rfl; have z4 : (((⟨#[116, 101, 108]⟩ : ByteArray) ++ ⟨#[59, 104, 111, 109, 101]⟩).size : Int) = 8 := rfl; have z5 : ((((⟨#[116, 101, 108]⟩ : ByteArray) ++ ⟨#[59, 104, 111, 109, 101]⟩) ++ (⟨#[58]⟩ : ByteArray)).size : Int) = 9 := rfl
 go_enter Tryz.func105, Tryz.ntmps105
 go_wp2_with (go_at_call 91; (with_reducible refine (HC.out _).mono ?_); rintro e w3 ⟨rfl, hb⟩; have HX3 := Zh (HX0.out.step hb); clear hb)
 have HV0 := Zh (HX3.out.drewN 1); have s0 := (HV0.out.get 0 rfl).cell 0; have s1 := (HV0.out.get 0 rfl).cell 1; have s2 := (HV0.out.get 0 rfl).cell 2; have zz : ¬ (9223372036854775807 : Int) < 9 + (v.size : Int) := by omega
 have zn : ¬ 9223372036854775807 < 9 + v.size := by omega
 refine wp_region_held_drew (S := (fun wr : World => wr.cell? ⟨w.heap.size, 0, none⟩ = some (.int .i64 3) ∧ wr.cell? ⟨w.heap.size, 1, none⟩ = some (.int .i64 1) ∧ wr.cell? ⟨w.heap.size, 2, none⟩ = some (.string v))) (by kernel_rfl) ⟨s0, s1, s2⟩ (fun hHeld => ?_); refine wpAnyH_take (i := 1) (v := ?_) rfl (by kernel_rfl) (by kernel_rfl) (by kernel_rfl) (fun _ _ _ h => h) (Or.inl ⟨by rfl, ?h1⟩) (by assumption) ?r1
 case h1 =>
  intro w hSw
  try dsimp only at hSw
  go_simp
  try with_reducible rfl
 try simp only [Act.put, List.setIfInBounds_toArray, List.set_cons_zero, List.set_cons_succ]
 refine wpAnyH_take (i := 2) (v := ?_) rfl (by kernel_rfl) (by kernel_rfl) (by kernel_rfl) (fun _ _ _ h => h) (Or.inl ⟨by rfl, ?h2⟩) (by assumption) ?r2
 case h2 =>
  intro w hSw
  try dsimp only at hSw
  go_simp
  try with_reducible rfl
 try simp only [Act.put, List.setIfInBounds_toArray, List.set_cons_zero, List.set_cons_succ]
 refine wpAnyH_take (i := 6) (v := ?_) rfl (by kernel_rfl) (by kernel_rfl) (by kernel_rfl) (fun _ _ _ h => h) (Or.inl ⟨by rfl, ?h6⟩) (by assumption) ?r6
 case h6 =>
  intro w hSw
  try dsimp only at hSw
  go_simp
  try with_reducible rfl
 try simp only [Act.put, List.setIfInBounds_toArray, List.set_cons_zero, List.set_cons_succ]
 refine wpAnyH_take (i := 7) (v := ?_) rfl (by kernel_rfl) (by kernel_rfl) (by kernel_rfl) (fun _ _ _ h => h) (Or.inl ⟨by rfl, ?h7⟩) (by assumption) ?r7
 case h7 =>
  intro w hSw
  try dsimp only at hSw
  go_simp
  try with_reducible rfl
 try simp only [Act.put, List.setIfInBounds_toArray, List.set_cons_zero, List.set_cons_succ]
 refine wpAnyH_take (i := 12) (v := ?_) rfl (by kernel_rfl) (by kernel_rfl) (by kernel_rfl) (fun _ _ _ h => h) (Or.inl ⟨by rfl, ?h12⟩) (by assumption) ?r12
 case h12 =>
  intro w hSw
  try dsimp only at hSw
  go_simp
  try with_reducible rfl
 try simp only [Act.put, List.setIfInBounds_toArray, List.set_cons_zero, List.set_cons_succ]
 refine wpAnyH_take (i := 13) (v := ?_) rfl (by kernel_rfl) (by kernel_rfl) (by kernel_rfl) (fun _ _ _ h => h) (Or.inl ⟨by rfl, ?h13⟩) (by assumption) ?r13
 case h13 =>
  intro w hSw
  try dsimp only at hSw
  go_simp
  try with_reducible rfl
 try simp only [Act.put, List.setIfInBounds_toArray, List.set_cons_zero, List.set_cons_succ]
 refine wpAnyH_ready (rs := [0]) (by kernel_rfl) (by simp) (AllReadyH.cons rfl (fun K hK => ?_) AllReadyH.nil)
 go_simp
 go_at_call 89; (with_reducible refine (words_any _).mono ?_); rintro _ x4 ⟨rfl, hb⟩; have HX4 := Zh (show Bxs w x4 _ from hb ▸ HV0.out.put 9 #[.string ⟨#[]⟩, .string ⟨#[110, 97, 109, 101]⟩, .string ⟨#[111, 114, 103]⟩, .string ⟨#[116, 101, 108]⟩, .string ⟨#[109, 97, 105, 108]⟩, .string ⟨#[100, 97, 121]⟩, .string ⟨#[110, 111, 116, 101]⟩] w3.heap.size rfl); have c40 := (HX4.out.get 0 rfl).cell 0; have c41 := (HX4.out.get 0 rfl).cell 1; have c42 := (HX4.out.get 0 rfl).cell 2; have c1 := (HX4.out.get 1 rfl).cell 3; clear hb
 try go_wp2_with fail
 refine hK.out _ _ ⟨c40, c41, c42⟩ (fun hHeld => ?_); clear hK K hHeld
 try simp only [Act.put, List.setIfInBounds_toArray, List.set_cons_zero, List.set_cons_succ]
 refine wpAnyH_more (T := (fun wr : World => wr.cell? ⟨w.heap.size, 0, none⟩ = some (.int .i64 3) ∧ wr.cell? ⟨w.heap.size, 1, none⟩ = some (.int .i64 1) ∧ wr.cell? ⟨w.heap.size, 2, none⟩ = some (.string v) ∧ wr.cell? ⟨w3.heap.size, 3, none⟩ = some (.string ⟨#[116, 101, 108]⟩))) (fun w h => ⟨h.1, h.2.1, h.2.2.1⟩) _ _ _ _ ?_; have hHeld : ((fun wr : World => wr.cell? ⟨w.heap.size, 0, none⟩ = some (.int .i64 3) ∧ wr.cell? ⟨w.heap.size, 1, none⟩ = some (.int .i64 1) ∧ wr.cell? ⟨w.heap.size, 2, none⟩ = some (.string v) ∧ wr.cell? ⟨w3.heap.size, 3, none⟩ = some (.string ⟨#[116, 101, 108]⟩))) _ := ⟨c40, c41, c42, c1⟩; refine wpAnyH_take (i := 3) (v := ?_) rfl (by kernel_rfl) (by kernel_rfl) (by kernel_rfl) (fun _ _ _ h => h) (Or.inl ⟨by rfl, ?h3⟩) (by assumption) ?r3
 case h3 =>
  intro w hSw
  try dsimp only at hSw
  go_simp
  try with_reducible rfl
 try simp only [Act.put, List.setIfInBounds_toArray, List.set_cons_zero, List.set_cons_succ]
 refine wpAnyH_take (i := 4) (v := ?_) rfl (by kernel_rfl) (by kernel_rfl) (by kernel_rfl) (fun _ _ _ h => h) (Or.inl ⟨by rfl, ?h4⟩) (by assumption) ?r4
 case h4 =>
  intro w hSw
  try dsimp only at hSw
  go_simp
  try with_reducible rfl
 try simp only [Act.put, List.setIfInBounds_toArray, List.set_cons_zero, List.set_cons_succ]
 refine wpAnyH_ready (rs := [5]) (by kernel_rfl) (by simp) (AllReadyH.cons rfl (fun K hK => ?_) AllReadyH.nil)
 go_simp
 go_at_call 90; (with_reducible refine (labels_any _).mono ?_); rintro _ x5 ⟨rfl, hb⟩; have HX5 := Zh (show Bxs w x5 _ from hb ▸ HX4.out.put 9 #[.string ⟨#[]⟩, .string ⟨#[59, 104, 111, 109, 101]⟩, .string ⟨#[59, 119, 111, 114, 107]⟩, .string ⟨#[59, 99, 101, 108, 108]⟩] x4.heap.size rfl); have c50 := (HX5.out.get 0 rfl).cell 0; have c51 := (HX5.out.get 0 rfl).cell 1; have c52 := (HX5.out.get 0 rfl).cell 2; have c2 := (HX5.out.get 1 rfl).cell 3; have c3 := (HX5.out.get 2 rfl).cell 1; clear hb
 try go_wp2_with fail
 refine hK.out _ _ ⟨c50, c51, c52, c2⟩ (fun hHeld => ?_); clear hK K hHeld
 try simp only [Act.put, List.setIfInBounds_toArray, List.set_cons_zero, List.set_cons_succ]
 refine wpAnyH_more (T := (fun wr : World => wr.cell? ⟨w.heap.size, 0, none⟩ = some (.int .i64 3) ∧ wr.cell? ⟨w.heap.size, 1, none⟩ = some (.int .i64 1) ∧ wr.cell? ⟨w.heap.size, 2, none⟩ = some (.string v) ∧ wr.cell? ⟨w3.heap.size, 3, none⟩ = some (.string ⟨#[116, 101, 108]⟩) ∧ wr.cell? ⟨x4.heap.size, 1, none⟩ = some (.string ⟨#[59, 104, 111, 109, 101]⟩))) (fun w h => ⟨h.1, h.2.1, h.2.2.1, h.2.2.2.1⟩) _ _ _ _ ?_; have hHeld : ((fun wr : World => wr.cell? ⟨w.heap.size, 0, none⟩ = some (.int .i64 3) ∧ wr.cell? ⟨w.heap.size, 1, none⟩ = some (.int .i64 1) ∧ wr.cell? ⟨w.heap.size, 2, none⟩ = some (.string v) ∧ wr.cell? ⟨w3.heap.size, 3, none⟩ = some (.string ⟨#[116, 101, 108]⟩) ∧ wr.cell? ⟨x4.heap.size, 1, none⟩ = some (.string ⟨#[59, 104, 111, 109, 101]⟩))) _ := ⟨c50, c51, c52, c2, c3⟩; refine wpAnyH_take (i := 8) (v := ?_) rfl (by kernel_rfl) (by kernel_rfl) (by kernel_rfl) (fun _ _ _ h => h) (Or.inl ⟨by rfl, ?h8⟩) (by assumption) ?r8
 case h8 =>
  intro w hSw
  try dsimp only at hSw
  go_simp
  try with_reducible rfl
 try simp only [Act.put, List.setIfInBounds_toArray, List.set_cons_zero, List.set_cons_succ]
 refine wpAnyH_take (i := 9) (v := ?_) rfl (by kernel_rfl) (by kernel_rfl) (by kernel_rfl) (fun _ _ _ h => h) (Or.inl ⟨by rfl, ?h9⟩) (by assumption) ?r9
 case h9 =>
  intro w hSw
  try dsimp only at hSw
  go_simp
  try with_reducible rfl
 try simp only [Act.put, List.setIfInBounds_toArray, List.set_cons_zero, List.set_cons_succ]
 refine wpAnyH_take (i := 10) (v := ?_) rfl (by kernel_rfl) (by kernel_rfl) (by kernel_rfl) (fun _ _ _ h => h) (Or.inl ⟨by rfl, ?h10⟩) (by assumption) ?r10
 case h10 =>
  intro w hSw
  try dsimp only at hSw
  go_simp
  try with_reducible rfl
 try simp only [Act.put, List.setIfInBounds_toArray, List.set_cons_zero, List.set_cons_succ]
 refine wpAnyH_take (i := 11) (v := ?_) rfl (by kernel_rfl) (by kernel_rfl) (by kernel_rfl) (fun _ _ _ h => h) (Or.inl ⟨by rfl, ?h11⟩) (by assumption) ?r11
 case h11 =>
  intro w hSw
  try dsimp only at hSw
  go_simp
  try with_reducible rfl
 try simp only [Act.put, List.setIfInBounds_toArray, List.set_cons_zero, List.set_cons_succ]
 refine wpAnyH_take (i := 14) (v := ?_) rfl (by kernel_rfl) (by kernel_rfl) (by kernel_rfl) (fun _ _ _ h => h) (Or.inl ⟨by rfl, ?h14⟩) (by assumption) ?r14
 case h14 =>
  intro w hSw
  try dsimp only at hSw
  go_simp
  try with_reducible rfl
 try simp only [Act.put, List.setIfInBounds_toArray, List.set_cons_zero, List.set_cons_succ]
 refine wpAnyH_take (i := 15) (v := ?_) rfl (by kernel_rfl) (by kernel_rfl) (by kernel_rfl) (fun _ _ _ h => h) (Or.inl ⟨by rfl, ?h15⟩) (by assumption) ?r15
 case h15 =>
  intro w hSw
  try dsimp only at hSw
  go_simp
  try with_reducible rfl
 try simp only [Act.put, List.setIfInBounds_toArray, List.set_cons_zero, List.set_cons_succ]
 refine wpAnyH_done (by kernel_rfl) ?_ _
 go_wp2
 go_ret
 exact ⟨by rw [H0.out]; rfl, HX5.out.bel⟩
theorem rline_32 (v : ByteArray) (hs : v.size ≤ 1000000) (w : World) (hm : mayF 3 2 v = true) : Calls Tryz.prog 105 #[fieldV 3 2 v] w fun e w' => e = .returned (.string (lineF 3 2 v)) ∧ Below w.heap.size w w' := by
 have HX0 := Zh ((Bxs.start w).new 92 #[.int .i64 3, .int .i64 2, .string v]); have HC := Zh (fun w => frmay_any 3 2 v hs w); have hsI : (v.size : Int) ≤ 1000000 := by omega
 have H0 := Zh (show lineF 3 2 v = ((⟨#[116, 101, 108]⟩ ++ ⟨#[59, 119, 111, 114, 107]⟩) ++ ⟨#[58]⟩) ++ v by unfold lineF; rw [if_pos hm]; rfl); rw [hm] at HC; clear hm hs; have z1 : ((⟨#[116, 101, 108]⟩ : ByteArray).size : Int) = 3 := rfl; have z2 : ((⟨#[59, 119, 111, 114, 107]⟩ : ByteArray).size : Int) = 5 := rfl; have z4 : (((⟨#[116, 101, 108]⟩ : ByteArray) ++ ⟨#[59, 119, 111, 114, 107]⟩).size : Int) = 8 := rfl; have z5 : ((((⟨#[116, 101, 108]⟩ : ByteArray) ++ ⟨#[59, 119, 111, 114, 107]⟩) ++ (⟨#[58]⟩ : ByteArray)).size : Int) = 9 := rfl
 go_enter Tryz.func105, Tryz.ntmps105
 go_wp2_with (go_at_call 91; (with_reducible refine (HC.out _).mono ?_); rintro e w3 ⟨rfl, hb⟩; have HX3 := Zh (HX0.out.step hb); clear hb)
 have HV0 := Zh (HX3.out.drewN 1); have s0 := (HV0.out.get 0 rfl).cell 0; have s1 := (HV0.out.get 0 rfl).cell 1; have s2 := (HV0.out.get 0 rfl).cell 2; have zz : ¬ (9223372036854775807 : Int) < 9 + (v.size : Int) := by omega
 have zn : ¬ 9223372036854775807 < 9 + v.size := by omega
 refine wp_region_held_drew (S := (fun wr : World => wr.cell? ⟨w.heap.size, 0, none⟩ = some (.int .i64 3) ∧ wr.cell? ⟨w.heap.size, 1, none⟩ = some (.int .i64 2) ∧ wr.cell? ⟨w.heap.size, 2, none⟩ = some (.string v))) (by kernel_rfl) ⟨s0, s1, s2⟩ (fun hHeld => ?_); refine wpAnyH_take (i := 1) (v := ?_) rfl (by kernel_rfl) (by kernel_rfl) (by kernel_rfl) (fun _ _ _ h => h) (Or.inl ⟨by rfl, ?h1⟩) (by assumption) ?r1
 case h1 =>
  intro w hSw
  try dsimp only at hSw
  go_simp
  try with_reducible rfl
 try simp only [Act.put, List.setIfInBounds_toArray, List.set_cons_zero, List.set_cons_succ]
 refine wpAnyH_take (i := 2) (v := ?_) rfl (by kernel_rfl) (by kernel_rfl) (by kernel_rfl) (fun _ _ _ h => h) (Or.inl ⟨by rfl, ?h2⟩) (by assumption) ?r2
 case h2 =>
  intro w hSw
  try dsimp only at hSw
  go_simp
  try with_reducible rfl
 try simp only [Act.put, List.setIfInBounds_toArray, List.set_cons_zero, List.set_cons_succ]
 refine wpAnyH_take (i := 6) (v := ?_) rfl (by kernel_rfl) (by kernel_rfl) (by kernel_rfl) (fun _ _ _ h => h) (Or.inl ⟨by rfl, ?h6⟩) (by assumption) ?r6
 case h6 =>
  intro w hSw
  try dsimp only at hSw
  go_simp
  try with_reducible rfl
 try simp only [Act.put, List.setIfInBounds_toArray, List.set_cons_zero, List.set_cons_succ]
 refine wpAnyH_take (i := 7) (v := ?_) rfl (by kernel_rfl) (by kernel_rfl) (by kernel_rfl) (fun _ _ _ h => h) (Or.inl ⟨by rfl, ?h7⟩) (by assumption) ?r7
 case h7 =>
  intro w hSw
  try dsimp only at hSw
  go_simp
  try with_reducible rfl
 try simp only [Act.put, List.setIfInBounds_toArray, List.set_cons_zero, List.set_cons_succ]
 refine wpAnyH_take (i := 12) (v := ?_) rfl (by kernel_rfl) (by kernel_rfl) (by kernel_rfl) (fun _ _ _ h => h) (Or.inl ⟨by rfl, ?h12⟩) (by assumption) ?r12
 case h12 =>
  intro w hSw
  try dsimp only at hSw
  go_simp
  try with_reducible rfl
 try simp only [Act.put, List.setIfInBounds_toArray, List.set_cons_zero, List.set_cons_succ]
 refine wpAnyH_take (i := 13) (v := ?_) rfl (by kernel_rfl) (by kernel_rfl) (by kernel_rfl) (fun _ _ _ h => h) (Or.inl ⟨by rfl, ?h13⟩) (by assumption) ?r13
 case h13 =>
  intro w hSw
  try dsimp only at hSw
  go_simp
  try with_reducible rfl
 try simp only [Act.put, List.setIfInBounds_toArray, List.set_cons_zero, List.set_cons_succ]
 refine wpAnyH_ready (rs := [0]) (by kernel_rfl) (by simp) (AllReadyH.cons rfl (fun K hK => ?_) AllReadyH.nil)
 go_simp
 go_at_call 89; (with_reducible refine (words_any _).mono ?_); rintro _ x4 ⟨rfl, hb⟩; have HX4 := Zh (show Bxs w x4 _ from hb ▸ HV0.out.put 9 #[.string ⟨#[]⟩, .string ⟨#[110, 97, 109, 101]⟩, .string ⟨#[111, 114, 103]⟩, .string ⟨#[116, 101, 108]⟩, .string ⟨#[109, 97, 105, 108]⟩, .string ⟨#[100, 97, 121]⟩, .string ⟨#[110, 111, 116, 101]⟩] w3.heap.size rfl); have c40 := (HX4.out.get 0 rfl).cell 0; have c41 := (HX4.out.get 0 rfl).cell 1; have c42 := (HX4.out.get 0 rfl).cell 2; have c1 := (HX4.out.get 1 rfl).cell 3; clear hb
 try go_wp2_with fail
 refine hK.out _ _ ⟨c40, c41, c42⟩ (fun hHeld => ?_); clear hK K hHeld
 try simp only [Act.put, List.setIfInBounds_toArray, List.set_cons_zero, List.set_cons_succ]
 refine wpAnyH_more (T := (fun wr : World => wr.cell? ⟨w.heap.size, 0, none⟩ = some (.int .i64 3) ∧ wr.cell? ⟨w.heap.size, 1, none⟩ = some (.int .i64 2) ∧ wr.cell? ⟨w.heap.size, 2, none⟩ = some (.string v) ∧ wr.cell? ⟨w3.heap.size, 3, none⟩ = some (.string ⟨#[116, 101, 108]⟩))) (fun w h => ⟨h.1, h.2.1, h.2.2.1⟩) _ _ _ _ ?_; have hHeld : ((fun wr : World => wr.cell? ⟨w.heap.size, 0, none⟩ = some (.int .i64 3) ∧ wr.cell? ⟨w.heap.size, 1, none⟩ = some (.int .i64 2) ∧ wr.cell? ⟨w.heap.size, 2, none⟩ = some (.string v) ∧ wr.cell? ⟨w3.heap.size, 3, none⟩ = some (.string ⟨#[116, 101, 108]⟩))) _ := ⟨c40, c41, c42, c1⟩; refine wpAnyH_take (i := 3) (v := ?_) rfl (by kernel_rfl) (by kernel_rfl) (by kernel_rfl) (fun _ _ _ h => h) (Or.inl ⟨by rfl, ?h3⟩) (by assumption) ?r3
 case h3 =>
  intro w hSw
  try dsimp only at hSw
  go_simp
  try with_reducible rfl
 try simp only [Act.put, List.setIfInBounds_toArray, List.set_cons_zero, List.set_cons_succ]
 refine wpAnyH_take (i := 4) (v := ?_) rfl (by kernel_rfl) (by kernel_rfl) (by kernel_rfl) (fun _ _ _ h => h) (Or.inl ⟨by rfl, ?h4⟩) (by assumption) ?r4
 case h4 =>
  intro w hSw
  try dsimp only at hSw
  go_simp
  try with_reducible rfl
 try simp only [Act.put, List.setIfInBounds_toArray, List.set_cons_zero, List.set_cons_succ]
 refine wpAnyH_ready (rs := [5]) (by kernel_rfl) (by simp) (AllReadyH.cons rfl (fun K hK => ?_) AllReadyH.nil)
 go_simp
 go_at_call 90; (with_reducible refine (labels_any _).mono ?_); rintro _ x5 ⟨rfl, hb⟩; have HX5 := Zh (show Bxs w x5 _ from hb ▸ HX4.out.put 9 #[.string ⟨#[]⟩, .string ⟨#[59, 104, 111, 109, 101]⟩, .string ⟨#[59, 119, 111, 114, 107]⟩, .string ⟨#[59, 99, 101, 108, 108]⟩] x4.heap.size rfl); have c50 := (HX5.out.get 0 rfl).cell 0; have c51 := (HX5.out.get 0 rfl).cell 1; have c52 := (HX5.out.get 0 rfl).cell 2; have c2 := (HX5.out.get 1 rfl).cell 3; have c3 := (HX5.out.get 2 rfl).cell 2; clear hb
 try go_wp2_with fail
 refine hK.out _ _ ⟨c50, c51, c52, c2⟩ (fun hHeld => ?_); clear hK K hHeld
 try simp only [Act.put, List.setIfInBounds_toArray, List.set_cons_zero, List.set_cons_succ]
 refine wpAnyH_more (T := (fun wr : World => wr.cell? ⟨w.heap.size, 0, none⟩ = some (.int .i64 3) ∧ wr.cell? ⟨w.heap.size, 1, none⟩ = some (.int .i64 2) ∧ wr.cell? ⟨w.heap.size, 2, none⟩ = some (.string v) ∧ wr.cell? ⟨w3.heap.size, 3, none⟩ = some (.string ⟨#[116, 101, 108]⟩) ∧ wr.cell? ⟨x4.heap.size, 2, none⟩ = some (.string ⟨#[59, 119, 111, 114, 107]⟩))) (fun w h => ⟨h.1, h.2.1, h.2.2.1, h.2.2.2.1⟩) _ _ _ _ ?_; have hHeld : ((fun wr : World => wr.cell? ⟨w.heap.size, 0, none⟩ = some (.int .i64 3) ∧ wr.cell? ⟨w.heap.size, 1, none⟩ = some (.int .i64 2) ∧ wr.cell? ⟨w.heap.size, 2, none⟩ = some (.string v) ∧ wr.cell? ⟨w3.heap.size, 3, none⟩ = some (.string ⟨#[116, 101, 108]⟩) ∧ wr.cell? ⟨x4.heap.size, 2, none⟩ = some (.string ⟨#[59, 119, 111, 114, 107]⟩))) _ := ⟨c50, c51, c52, c2, c3⟩; refine wpAnyH_take (i := 8) (v := ?_) rfl (by kernel_rfl) (by kernel_rfl) (by kernel_rfl) (fun _ _ _ h => h) (Or.inl ⟨by rfl, ?h8⟩) (by assumption) ?r8
 case h8 =>
  intro w hSw
  try dsimp only at hSw
  go_simp
  try with_reducible rfl
 try simp only [Act.put, List.setIfInBounds_toArray, List.set_cons_zero, List.set_cons_succ]
 refine wpAnyH_take (i := 9) (v := ?_) rfl (by kernel_rfl) (by kernel_rfl) (by kernel_rfl) (fun _ _ _ h => h) (Or.inl ⟨by rfl, ?h9⟩) (by assumption) ?r9
 case h9 =>
  intro w hSw
  try dsimp only at hSw
  go_simp
  try with_reducible rfl
 try simp only [Act.put, List.setIfInBounds_toArray, List.set_cons_zero, List.set_cons_succ]
 refine wpAnyH_take (i := 10) (v := ?_) rfl (by kernel_rfl) (by kernel_rfl) (by kernel_rfl) (fun _ _ _ h => h) (Or.inl ⟨by rfl, ?h10⟩) (by assumption) ?r10
 case h10 =>
  intro w hSw
  try dsimp only at hSw
  go_simp
  try with_reducible rfl
 try simp only [Act.put, List.setIfInBounds_toArray, List.set_cons_zero, List.set_cons_succ]
 refine wpAnyH_take (i := 11) (v := ?_) rfl (by kernel_rfl) (by kernel_rfl) (by kernel_rfl) (fun _ _ _ h => h) (Or.inl ⟨by rfl, ?h11⟩) (by assumption) ?r11
 case h11 =>
  intro w hSw
  try dsimp only at hSw
  go_simp
  try with_reducible rfl
 try simp only [Act.put, List.setIfInBounds_toArray, List.set_cons_zero, List.set_cons_succ]
 refine wpAnyH_take (i := 14) (v := ?_) rfl (by kernel_rfl) (by kernel_rfl) (by kernel_rfl) (fun _ _ _ h => h) (Or.inl ⟨by rfl, ?h14⟩) (by assumption) ?r14
 case h14 =>
  intro w hSw
  try dsimp only at hSw
  go_simp
  try with_reducible rfl
 try simp only [Act.put, List.setIfInBounds_toArray, List.set_cons_zero, List.set_cons_succ]
 refine wpAnyH_take (i := 15) (v := ?_) rfl (by kernel_rfl) (by kernel_rfl) (by kernel_rfl) (fun _ _ _ h => h) (Or.inl ⟨by rfl, ?h15⟩) (by assumption) ?r15
 case h15 =>
  intro w hSw
  try dsimp only at hSw
  go_simp
  try with_reducible rfl
 try simp only [Act.put, List.setIfInBounds_toArray, List.set_cons_zero, List.set_cons_succ]
 refine wpAnyH_done (by kernel_rfl) ?_ _
 go_wp2
 go_ret
 exact ⟨by rw [H0.out]; rfl, HX5.out.bel⟩
theorem rline_33 (v : ByteArray) (hs : v.size ≤ 1000000) (w : World) (hm : mayF 3 3 v = true) : Calls Tryz.prog 105 #[fieldV 3 3 v] w fun e w' => e = .returned (.string (lineF 3 3 v)) ∧ Below w.heap.size w w' := by
 have HX0 := Zh ((Bxs.start w).new 92 #[.int .i64 3, .int .i64 3, .string v]); have HC := Zh (fun w => frmay_any 3 3 v hs w); have hsI : (v.size : Int) ≤ 1000000 := by omega
 have H0 := Zh (show lineF 3 3 v = ((⟨#[116, 101, 108]⟩ ++ ⟨#[59, 99, 101, 108, 108]⟩) ++ ⟨#[58]⟩) ++ v by unfold lineF; rw [if_pos hm]; rfl); rw [hm] at HC; clear hm hs; have z1 : ((⟨#[116, 101, 108]⟩ : ByteArray).size : Int) = 3 := rfl; have z2 : ((⟨#[59, 99, 101, 108, 108]⟩ : ByteArray).size : Int) = 5 := rfl; have z4 : (((⟨#[116, 101, 108]⟩ : ByteArray) ++ ⟨#[59, 99, 101, 108, 108]⟩).size : Int) = 8 := rfl; have z5 : ((((⟨#[116, 101, 108]⟩ : ByteArray) ++ ⟨#[59, 99, 101, 108, 108]⟩) ++ (⟨#[58]⟩ : ByteArray)).size : Int) = 9 := rfl
 go_enter Tryz.func105, Tryz.ntmps105
 go_wp2_with (go_at_call 91; (with_reducible refine (HC.out _).mono ?_); rintro e w3 ⟨rfl, hb⟩; have HX3 := Zh (HX0.out.step hb); clear hb)
 have HV0 := Zh (HX3.out.drewN 1); have s0 := (HV0.out.get 0 rfl).cell 0; have s1 := (HV0.out.get 0 rfl).cell 1; have s2 := (HV0.out.get 0 rfl).cell 2; have zz : ¬ (9223372036854775807 : Int) < 9 + (v.size : Int) := by omega
 have zn : ¬ 9223372036854775807 < 9 + v.size := by omega
 refine wp_region_held_drew (S := (fun wr : World => wr.cell? ⟨w.heap.size, 0, none⟩ = some (.int .i64 3) ∧ wr.cell? ⟨w.heap.size, 1, none⟩ = some (.int .i64 3) ∧ wr.cell? ⟨w.heap.size, 2, none⟩ = some (.string v))) (by kernel_rfl) ⟨s0, s1, s2⟩ (fun hHeld => ?_); refine wpAnyH_take (i := 1) (v := ?_) rfl (by kernel_rfl) (by kernel_rfl) (by kernel_rfl) (fun _ _ _ h => h) (Or.inl ⟨by rfl, ?h1⟩) (by assumption) ?r1
 case h1 =>
  intro w hSw
  try dsimp only at hSw
  go_simp
  try with_reducible rfl
 try simp only [Act.put, List.setIfInBounds_toArray, List.set_cons_zero, List.set_cons_succ]
 refine wpAnyH_take (i := 2) (v := ?_) rfl (by kernel_rfl) (by kernel_rfl) (by kernel_rfl) (fun _ _ _ h => h) (Or.inl ⟨by rfl, ?h2⟩) (by assumption) ?r2
 case h2 =>
  intro w hSw
  try dsimp only at hSw
  go_simp
  try with_reducible rfl
 try simp only [Act.put, List.setIfInBounds_toArray, List.set_cons_zero, List.set_cons_succ]
 refine wpAnyH_take (i := 6) (v := ?_) rfl (by kernel_rfl) (by kernel_rfl) (by kernel_rfl) (fun _ _ _ h => h) (Or.inl ⟨by rfl, ?h6⟩) (by assumption) ?r6
 case h6 =>
  intro w hSw
  try dsimp only at hSw
  go_simp
  try with_reducible rfl
 try simp only [Act.put, List.setIfInBounds_toArray, List.set_cons_zero, List.set_cons_succ]
 refine wpAnyH_take (i := 7) (v := ?_) rfl (by kernel_rfl) (by kernel_rfl) (by kernel_rfl) (fun _ _ _ h => h) (Or.inl ⟨by rfl, ?h7⟩) (by assumption) ?r7
 case h7 =>
  intro w hSw
  try dsimp only at hSw
  go_simp
  try with_reducible rfl
 try simp only [Act.put, List.setIfInBounds_toArray, List.set_cons_zero, List.set_cons_succ]
 refine wpAnyH_take (i := 12) (v := ?_) rfl (by kernel_rfl) (by kernel_rfl) (by kernel_rfl) (fun _ _ _ h => h) (Or.inl ⟨by rfl, ?h12⟩) (by assumption) ?r12
 case h12 =>
  intro w hSw
  try dsimp only at hSw
  go_simp
  try with_reducible rfl
 try simp only [Act.put, List.setIfInBounds_toArray, List.set_cons_zero, List.set_cons_succ]
 refine wpAnyH_take (i := 13) (v := ?_) rfl (by kernel_rfl) (by kernel_rfl) (by kernel_rfl) (fun _ _ _ h => h) (Or.inl ⟨by rfl, ?h13⟩) (by assumption) ?r13
 case h13 =>
  intro w hSw
  try dsimp only at hSw
  go_simp
  try with_reducible rfl
 try simp only [Act.put, List.setIfInBounds_toArray, List.set_cons_zero, List.set_cons_succ]
 refine wpAnyH_ready (rs := [0]) (by kernel_rfl) (by simp) (AllReadyH.cons rfl (fun K hK => ?_) AllReadyH.nil)
 go_simp
 go_at_call 89; (with_reducible refine (words_any _).mono ?_); rintro _ x4 ⟨rfl, hb⟩; have HX4 := Zh (show Bxs w x4 _ from hb ▸ HV0.out.put 9 #[.string ⟨#[]⟩, .string ⟨#[110, 97, 109, 101]⟩, .string ⟨#[111, 114, 103]⟩, .string ⟨#[116, 101, 108]⟩, .string ⟨#[109, 97, 105, 108]⟩, .string ⟨#[100, 97, 121]⟩, .string ⟨#[110, 111, 116, 101]⟩] w3.heap.size rfl); have c40 := (HX4.out.get 0 rfl).cell 0; have c41 := (HX4.out.get 0 rfl).cell 1; have c42 := (HX4.out.get 0 rfl).cell 2; have c1 := (HX4.out.get 1 rfl).cell 3; clear hb
 try go_wp2_with fail
 refine hK.out _ _ ⟨c40, c41, c42⟩ (fun hHeld => ?_); clear hK K hHeld
 try simp only [Act.put, List.setIfInBounds_toArray, List.set_cons_zero, List.set_cons_succ]
 refine wpAnyH_more (T := (fun wr : World => wr.cell? ⟨w.heap.size, 0, none⟩ = some (.int .i64 3) ∧ wr.cell? ⟨w.heap.size, 1, none⟩ = some (.int .i64 3) ∧ wr.cell? ⟨w.heap.size, 2, none⟩ = some (.string v) ∧ wr.cell? ⟨w3.heap.size, 3, none⟩ = some (.string ⟨#[116, 101, 108]⟩))) (fun w h => ⟨h.1, h.2.1, h.2.2.1⟩) _ _ _ _ ?_; have hHeld : ((fun wr : World => wr.cell? ⟨w.heap.size, 0, none⟩ = some (.int .i64 3) ∧ wr.cell? ⟨w.heap.size, 1, none⟩ = some (.int .i64 3) ∧ wr.cell? ⟨w.heap.size, 2, none⟩ = some (.string v) ∧ wr.cell? ⟨w3.heap.size, 3, none⟩ = some (.string ⟨#[116, 101, 108]⟩))) _ := ⟨c40, c41, c42, c1⟩; refine wpAnyH_take (i := 3) (v := ?_) rfl (by kernel_rfl) (by kernel_rfl) (by kernel_rfl) (fun _ _ _ h => h) (Or.inl ⟨by rfl, ?h3⟩) (by assumption) ?r3
 case h3 =>
  intro w hSw
  try dsimp only at hSw
  go_simp
  try with_reducible rfl
 try simp only [Act.put, List.setIfInBounds_toArray, List.set_cons_zero, List.set_cons_succ]
 refine wpAnyH_take (i := 4) (v := ?_) rfl (by kernel_rfl) (by kernel_rfl) (by kernel_rfl) (fun _ _ _ h => h) (Or.inl ⟨by rfl, ?h4⟩) (by assumption) ?r4
 case h4 =>
  intro w hSw
  try dsimp only at hSw
  go_simp
  try with_reducible rfl
 try simp only [Act.put, List.setIfInBounds_toArray, List.set_cons_zero, List.set_cons_succ]
 refine wpAnyH_ready (rs := [5]) (by kernel_rfl) (by simp) (AllReadyH.cons rfl (fun K hK => ?_) AllReadyH.nil)
 go_simp
 go_at_call 90; (with_reducible refine (labels_any _).mono ?_); rintro _ x5 ⟨rfl, hb⟩; have HX5 := Zh (show Bxs w x5 _ from hb ▸ HX4.out.put 9 #[.string ⟨#[]⟩, .string ⟨#[59, 104, 111, 109, 101]⟩, .string ⟨#[59, 119, 111, 114, 107]⟩, .string ⟨#[59, 99, 101, 108, 108]⟩] x4.heap.size rfl); have c50 := (HX5.out.get 0 rfl).cell 0; have c51 := (HX5.out.get 0 rfl).cell 1; have c52 := (HX5.out.get 0 rfl).cell 2; have c2 := (HX5.out.get 1 rfl).cell 3; have c3 := (HX5.out.get 2 rfl).cell 3; clear hb
 try go_wp2_with fail
 refine hK.out _ _ ⟨c50, c51, c52, c2⟩ (fun hHeld => ?_); clear hK K hHeld
 try simp only [Act.put, List.setIfInBounds_toArray, List.set_cons_zero, List.set_cons_succ]
 refine wpAnyH_more (T := (fun wr : World => wr.cell? ⟨w.heap.size, 0, none⟩ = some (.int .i64 3) ∧ wr.cell? ⟨w.heap.size, 1, none⟩ = some (.int .i64 3) ∧ wr.cell? ⟨w.heap.size, 2, none⟩ = some (.string v) ∧ wr.cell? ⟨w3.heap.size, 3, none⟩ = some (.string ⟨#[116, 101, 108]⟩) ∧ wr.cell? ⟨x4.heap.size, 3, none⟩ = some (.string ⟨#[59, 99, 101, 108, 108]⟩))) (fun w h => ⟨h.1, h.2.1, h.2.2.1, h.2.2.2.1⟩) _ _ _ _ ?_; have hHeld : ((fun wr : World => wr.cell? ⟨w.heap.size, 0, none⟩ = some (.int .i64 3) ∧ wr.cell? ⟨w.heap.size, 1, none⟩ = some (.int .i64 3) ∧ wr.cell? ⟨w.heap.size, 2, none⟩ = some (.string v) ∧ wr.cell? ⟨w3.heap.size, 3, none⟩ = some (.string ⟨#[116, 101, 108]⟩) ∧ wr.cell? ⟨x4.heap.size, 3, none⟩ = some (.string ⟨#[59, 99, 101, 108, 108]⟩))) _ := ⟨c50, c51, c52, c2, c3⟩; refine wpAnyH_take (i := 8) (v := ?_) rfl (by kernel_rfl) (by kernel_rfl) (by kernel_rfl) (fun _ _ _ h => h) (Or.inl ⟨by rfl, ?h8⟩) (by assumption) ?r8
 case h8 =>
  intro w hSw
  try dsimp only at hSw
  go_simp
  try with_reducible rfl
 try simp only [Act.put, List.setIfInBounds_toArray, List.set_cons_zero, List.set_cons_succ]
 refine wpAnyH_take (i := 9) (v := ?_) rfl (by kernel_rfl) (by kernel_rfl) (by kernel_rfl) (fun _ _ _ h => h) (Or.inl ⟨by rfl, ?h9⟩) (by assumption) ?r9
 case h9 =>
  intro w hSw
  try dsimp only at hSw
  go_simp
  try with_reducible rfl
 try simp only [Act.put, List.setIfInBounds_toArray, List.set_cons_zero, List.set_cons_succ]
 refine wpAnyH_take (i := 10) (v := ?_) rfl (by kernel_rfl) (by kernel_rfl) (by kernel_rfl) (fun _ _ _ h => h) (Or.inl ⟨by rfl, ?h10⟩) (by assumption) ?r10
 case h10 =>
  intro w hSw
  try dsimp only at hSw
  go_simp
  try with_reducible rfl
 try simp only [Act.put, List.setIfInBounds_toArray, List.set_cons_zero, List.set_cons_succ]
 refine wpAnyH_take (i := 11) (v := ?_) rfl (by kernel_rfl) (by kernel_rfl) (by kernel_rfl) (fun _ _ _ h => h) (Or.inl ⟨by rfl, ?h11⟩) (by assumption) ?r11
 case h11 =>
  intro w hSw
  try dsimp only at hSw
  go_simp
  try with_reducible rfl
 try simp only [Act.put, List.setIfInBounds_toArray, List.set_cons_zero, List.set_cons_succ]
 refine wpAnyH_take (i := 14) (v := ?_) rfl (by kernel_rfl) (by kernel_rfl) (by kernel_rfl) (fun _ _ _ h => h) (Or.inl ⟨by rfl, ?h14⟩) (by assumption) ?r14
 case h14 =>
  intro w hSw
  try dsimp only at hSw
  go_simp
  try with_reducible rfl
 try simp only [Act.put, List.setIfInBounds_toArray, List.set_cons_zero, List.set_cons_succ]
 refine wpAnyH_take (i := 15) (v := ?_) rfl (by kernel_rfl) (by kernel_rfl) (by kernel_rfl) (fun _ _ _ h => h) (Or.inl ⟨by rfl, ?h15⟩) (by assumption) ?r15
 case h15 =>
  intro w hSw
  try dsimp only at hSw
  go_simp
  try with_reducible rfl
 try simp only [Act.put, List.setIfInBounds_toArray, List.set_cons_zero, List.set_cons_succ]
 refine wpAnyH_done (by kernel_rfl) ?_ _
 go_wp2
 go_ret
 exact ⟨by rw [H0.out]; rfl, HX5.out.bel⟩
theorem rline_40 (v : ByteArray) (hs : v.size ≤ 1000000) (w : World) (hm : mayF 4 0 v = true) : Calls Tryz.prog 105 #[fieldV 4 0 v] w fun e w' => e = .returned (.string (lineF 4 0 v)) ∧ Below w.heap.size w w' := by
 have HX0 := Zh ((Bxs.start w).new 92 #[.int .i64 4, .int .i64 0, .string v]); have HC := Zh (fun w => frmay_any 4 0 v hs w); have hsI : (v.size : Int) ≤ 1000000 := by omega
 have H0 := Zh (show lineF 4 0 v = ((⟨#[109, 97, 105, 108]⟩ ++ ⟨#[]⟩) ++ ⟨#[58]⟩) ++ v by unfold lineF; rw [if_pos hm]; rfl); rw [hm] at HC; clear hm hs; have z1 : ((⟨#[109, 97, 105, 108]⟩ : ByteArray).size : Int) = 4 := rfl; have z2 : ((⟨#[]⟩ : ByteArray).size : Int) = 0 := rfl; have z4 : (((⟨#[109, 97, 105, 108]⟩ : ByteArray) ++ ⟨#[]⟩).size : Int) = 4 := rfl; have z5 : ((((⟨#[109, 97, 105, 108]⟩ : ByteArray) ++ ⟨#[]⟩) ++ (⟨#[58]⟩ : ByteArray)).size : Int) = 5 := rfl
 go_enter Tryz.func105, Tryz.ntmps105
 go_wp2_with (go_at_call 91; (with_reducible refine (HC.out _).mono ?_); rintro e w3 ⟨rfl, hb⟩; have HX3 := Zh (HX0.out.step hb); clear hb)
 have HV0 := Zh (HX3.out.drewN 1); have s0 := (HV0.out.get 0 rfl).cell 0; have s1 := (HV0.out.get 0 rfl).cell 1; have s2 := (HV0.out.get 0 rfl).cell 2; have zz : ¬ (9223372036854775807 : Int) < 5 + (v.size : Int) := by omega
 have zn : ¬ 9223372036854775807 < 5 + v.size := by omega
 refine wp_region_held_drew (S := (fun wr : World => wr.cell? ⟨w.heap.size, 0, none⟩ = some (.int .i64 4) ∧ wr.cell? ⟨w.heap.size, 1, none⟩ = some (.int .i64 0) ∧ wr.cell? ⟨w.heap.size, 2, none⟩ = some (.string v))) (by kernel_rfl) ⟨s0, s1, s2⟩ (fun hHeld => ?_); refine wpAnyH_take (i := 1) (v := ?_) rfl (by kernel_rfl) (by kernel_rfl) (by kernel_rfl) (fun _ _ _ h => h) (Or.inl ⟨by rfl, ?h1⟩) (by assumption) ?r1
 case h1 =>
  intro w hSw
  try dsimp only at hSw
  go_simp
  try with_reducible rfl
 try simp only [Act.put, List.setIfInBounds_toArray, List.set_cons_zero, List.set_cons_succ]
 refine wpAnyH_take (i := 2) (v := ?_) rfl (by kernel_rfl) (by kernel_rfl) (by kernel_rfl) (fun _ _ _ h => h) (Or.inl ⟨by rfl, ?h2⟩) (by assumption) ?r2
 case h2 =>
  intro w hSw
  try dsimp only at hSw
  go_simp
  try with_reducible rfl
 try simp only [Act.put, List.setIfInBounds_toArray, List.set_cons_zero, List.set_cons_succ]
 refine wpAnyH_take (i := 6) (v := ?_) rfl (by kernel_rfl) (by kernel_rfl) (by kernel_rfl) (fun _ _ _ h => h) (Or.inl ⟨by rfl, ?h6⟩) (by assumption) ?r6
 case h6 =>
  intro w hSw
  try dsimp only at hSw
  go_simp
  try with_reducible rfl
 try simp only [Act.put, List.setIfInBounds_toArray, List.set_cons_zero, List.set_cons_succ]
 refine wpAnyH_take (i := 7) (v := ?_) rfl (by kernel_rfl) (by kernel_rfl) (by kernel_rfl) (fun _ _ _ h => h) (Or.inl ⟨by rfl, ?h7⟩) (by assumption) ?r7
 case h7 =>
  intro w hSw
  try dsimp only at hSw
  go_simp
  try with_reducible rfl
 try simp only [Act.put, List.setIfInBounds_toArray, List.set_cons_zero, List.set_cons_succ]
 refine wpAnyH_take (i := 12) (v := ?_) rfl (by kernel_rfl) (by kernel_rfl) (by kernel_rfl) (fun _ _ _ h => h) (Or.inl ⟨by rfl, ?h12⟩) (by assumption) ?r12
 case h12 =>
  intro w hSw
  try dsimp only at hSw
  go_simp
  try with_reducible rfl
 try simp only [Act.put, List.setIfInBounds_toArray, List.set_cons_zero, List.set_cons_succ]
 refine wpAnyH_take (i := 13) (v := ?_) rfl (by kernel_rfl) (by kernel_rfl) (by kernel_rfl) (fun _ _ _ h => h) (Or.inl ⟨by rfl, ?h13⟩) (by assumption) ?r13
 case h13 =>
  intro w hSw
  try dsimp only at hSw
  go_simp
  try with_reducible rfl
 try simp only [Act.put, List.setIfInBounds_toArray, List.set_cons_zero, List.set_cons_succ]
 refine wpAnyH_ready (rs := [0]) (by kernel_rfl) (by simp) (AllReadyH.cons rfl (fun K hK => ?_) AllReadyH.nil)
 go_simp
 go_at_call 89; (with_reducible refine (words_any _).mono ?_); rintro _ x4 ⟨rfl, hb⟩; have HX4 := Zh (show Bxs w x4 _ from hb ▸ HV0.out.put 9 #[.string ⟨#[]⟩, .string ⟨#[110, 97, 109, 101]⟩, .string ⟨#[111, 114, 103]⟩, .string ⟨#[116, 101, 108]⟩, .string ⟨#[109, 97, 105, 108]⟩, .string ⟨#[100, 97, 121]⟩, .string ⟨#[110, 111, 116, 101]⟩] w3.heap.size rfl); have c40 := (HX4.out.get 0 rfl).cell 0; have c41 := (HX4.out.get 0 rfl).cell 1; have c42 := (HX4.out.get 0 rfl).cell 2; have c1 := (HX4.out.get 1 rfl).cell 4; clear hb
 try go_wp2_with fail
 refine hK.out _ _ ⟨c40, c41, c42⟩ (fun hHeld => ?_); clear hK K hHeld
 try simp only [Act.put, List.setIfInBounds_toArray, List.set_cons_zero, List.set_cons_succ]
 refine wpAnyH_more (T := (fun wr : World => wr.cell? ⟨w.heap.size, 0, none⟩ = some (.int .i64 4) ∧ wr.cell? ⟨w.heap.size, 1, none⟩ = some (.int .i64 0) ∧ wr.cell? ⟨w.heap.size, 2, none⟩ = some (.string v) ∧ wr.cell? ⟨w3.heap.size, 4, none⟩ = some (.string ⟨#[109, 97, 105, 108]⟩))) (fun w h => ⟨h.1, h.2.1, h.2.2.1⟩) _ _ _ _ ?_; have hHeld : ((fun wr : World => wr.cell? ⟨w.heap.size, 0, none⟩ = some (.int .i64 4) ∧ wr.cell? ⟨w.heap.size, 1, none⟩ = some (.int .i64 0) ∧ wr.cell? ⟨w.heap.size, 2, none⟩ = some (.string v) ∧ wr.cell? ⟨w3.heap.size, 4, none⟩ = some (.string ⟨#[109, 97, 105, 108]⟩))) _ := ⟨c40, c41, c42, c1⟩; refine wpAnyH_take (i := 3) (v := ?_) rfl (by kernel_rfl) (by kernel_rfl) (by kernel_rfl) (fun _ _ _ h => h) (Or.inl ⟨by rfl, ?h3⟩) (by assumption) ?r3
 case h3 =>
  intro w hSw
  try dsimp only at hSw
  go_simp
  try with_reducible rfl
 try simp only [Act.put, List.setIfInBounds_toArray, List.set_cons_zero, List.set_cons_succ]
 refine wpAnyH_take (i := 4) (v := ?_) rfl (by kernel_rfl) (by kernel_rfl) (by kernel_rfl) (fun _ _ _ h => h) (Or.inl ⟨by rfl, ?h4⟩) (by assumption) ?r4
 case h4 =>
  intro w hSw
  try dsimp only at hSw
  go_simp
  try with_reducible rfl
 try simp only [Act.put, List.setIfInBounds_toArray, List.set_cons_zero, List.set_cons_succ]
 refine wpAnyH_ready (rs := [5]) (by kernel_rfl) (by simp) (AllReadyH.cons rfl (fun K hK => ?_) AllReadyH.nil)
 go_simp
 go_at_call 90; (with_reducible refine (labels_any _).mono ?_); rintro _ x5 ⟨rfl, hb⟩; have HX5 := Zh (show Bxs w x5 _ from hb ▸ HX4.out.put 9 #[.string ⟨#[]⟩, .string ⟨#[59, 104, 111, 109, 101]⟩, .string ⟨#[59, 119, 111, 114, 107]⟩, .string ⟨#[59, 99, 101, 108, 108]⟩] x4.heap.size rfl); have c50 := (HX5.out.get 0 rfl).cell 0; have c51 := (HX5.out.get 0 rfl).cell 1; have c52 := (HX5.out.get 0 rfl).cell 2; have c2 := (HX5.out.get 1 rfl).cell 4; have c3 := (HX5.out.get 2 rfl).cell 0; clear hb
 try go_wp2_with fail
 refine hK.out _ _ ⟨c50, c51, c52, c2⟩ (fun hHeld => ?_); clear hK K hHeld
 try simp only [Act.put, List.setIfInBounds_toArray, List.set_cons_zero, List.set_cons_succ]
 refine wpAnyH_more (T := (fun wr : World => wr.cell? ⟨w.heap.size, 0, none⟩ = some (.int .i64 4) ∧ wr.cell? ⟨w.heap.size, 1, none⟩ = some (.int .i64 0) ∧ wr.cell? ⟨w.heap.size, 2, none⟩ = some (.string v) ∧ wr.cell? ⟨w3.heap.size, 4, none⟩ = some (.string ⟨#[109, 97, 105, 108]⟩) ∧ wr.cell? ⟨x4.heap.size, 0, none⟩ = some (.string ⟨#[]⟩))) (fun w h => ⟨h.1, h.2.1, h.2.2.1, h.2.2.2.1⟩) _ _ _ _ ?_; have hHeld : ((fun wr : World => wr.cell? ⟨w.heap.size, 0, none⟩ = some (.int .i64 4) ∧ wr.cell? ⟨w.heap.size, 1, none⟩ = some (.int .i64 0) ∧ wr.cell? ⟨w.heap.size, 2, none⟩ = some (.string v) ∧ wr.cell? ⟨w3.heap.size, 4, none⟩ = some (.string ⟨#[109, 97, 105, 108]⟩) ∧ wr.cell? ⟨x4.heap.size, 0, none⟩ = some (.string ⟨#[]⟩))) _ := ⟨c50, c51, c52, c2, c3⟩; refine wpAnyH_take (i := 8) (v := ?_) rfl (by kernel_rfl) (by kernel_rfl) (by kernel_rfl) (fun _ _ _ h => h) (Or.inl ⟨by rfl, ?h8⟩) (by assumption) ?r8
 case h8 =>
  intro w hSw
  try dsimp only at hSw
  go_simp
  try with_reducible rfl
 try simp only [Act.put, List.setIfInBounds_toArray, List.set_cons_zero, List.set_cons_succ]
 refine wpAnyH_take (i := 9) (v := ?_) rfl (by kernel_rfl) (by kernel_rfl) (by kernel_rfl) (fun _ _ _ h => h) (Or.inl ⟨by rfl, ?h9⟩) (by assumption) ?r9
 case h9 =>
  intro w hSw
  try dsimp only at hSw
  go_simp
  try with_reducible rfl
 try simp only [Act.put, List.setIfInBounds_toArray, List.set_cons_zero, List.set_cons_succ]
 refine wpAnyH_take (i := 10) (v := ?_) rfl (by kernel_rfl) (by kernel_rfl) (by kernel_rfl) (fun _ _ _ h => h) (Or.inl ⟨by rfl, ?h10⟩) (by assumption) ?r10
 case h10 =>
  intro w hSw
  try dsimp only at hSw
  go_simp
  try with_reducible rfl
 try simp only [Act.put, List.setIfInBounds_toArray, List.set_cons_zero, List.set_cons_succ]
 refine wpAnyH_take (i := 11) (v := ?_) rfl (by kernel_rfl) (by kernel_rfl) (by kernel_rfl) (fun _ _ _ h => h) (Or.inl ⟨by rfl, ?h11⟩) (by assumption) ?r11
 case h11 =>
  intro w hSw
  try dsimp only at hSw
  go_simp
  try with_reducible rfl
 try simp only [Act.put, List.setIfInBounds_toArray, List.set_cons_zero, List.set_cons_succ]
 refine wpAnyH_take (i := 14) (v := ?_) rfl (by kernel_rfl) (by kernel_rfl) (by kernel_rfl) (fun _ _ _ h => h) (Or.inl ⟨by rfl, ?h14⟩) (by assumption) ?r14
 case h14 =>
  intro w hSw
  try dsimp only at hSw
  go_simp
  try with_reducible rfl
 try simp only [Act.put, List.setIfInBounds_toArray, List.set_cons_zero, List.set_cons_succ]
 refine wpAnyH_take (i := 15) (v := ?_) rfl (by kernel_rfl) (by kernel_rfl) (by kernel_rfl) (fun _ _ _ h => h) (Or.inl ⟨by rfl, ?h15⟩) (by assumption) ?r15
 case h15 =>
  intro w hSw
  try dsimp only at hSw
  go_simp
  try with_reducible rfl
 try simp only [Act.put, List.setIfInBounds_toArray, List.set_cons_zero, List.set_cons_succ]
 refine wpAnyH_done (by kernel_rfl) ?_ _
 go_wp2
 go_ret
 exact ⟨by rw [H0.out]; rfl, HX5.out.bel⟩
theorem rline_41 (v : ByteArray) (hs : v.size ≤ 1000000) (w : World) (hm : mayF 4 1 v = true) : Calls Tryz.prog 105 #[fieldV 4 1 v] w fun e w' => e = .returned (.string (lineF 4 1 v)) ∧ Below w.heap.size w w' := by
 have HX0 := Zh ((Bxs.start w).new 92 #[.int .i64 4, .int .i64 1, .string v]); have HC := Zh (fun w => frmay_any 4 1 v hs w); have hsI : (v.size : Int) ≤ 1000000 := by omega
 have H0 := Zh (show lineF 4 1 v = ((⟨#[109, 97, 105, 108]⟩ ++ ⟨#[59, 104, 111, 109, 101]⟩) ++ ⟨#[58]⟩) ++ v by unfold lineF; rw [if_pos hm]; rfl); rw [hm] at HC; clear hm hs; have z1 : ((⟨#[109, 97, 105, 108]⟩ : ByteArray).size : Int) = 4 := rfl; have z2 : ((⟨#[59, 104, 111, 109, 101]⟩ : ByteArray).size : Int) = 5 := rfl; have z4 : (((⟨#[109, 97, 105, 108]⟩ : ByteArray) ++ ⟨#[59, 104, 111, 109, 101]⟩).size : Int) = 9 := rfl; have z5 : ((((⟨#[109, 97, 105, 108]⟩ : ByteArray) ++ ⟨#[59, 104, 111, 109, 101]⟩) ++ (⟨#[58]⟩ : ByteArray)).size : Int) = 10 := rfl
 go_enter Tryz.func105, Tryz.ntmps105
 go_wp2_with (go_at_call 91; (with_reducible refine (HC.out _).mono ?_); rintro e w3 ⟨rfl, hb⟩; have HX3 := Zh (HX0.out.step hb); clear hb)
 have HV0 := Zh (HX3.out.drewN 1); have s0 := (HV0.out.get 0 rfl).cell 0; have s1 := (HV0.out.get 0 rfl).cell 1; have s2 := (HV0.out.get 0 rfl).cell 2; have zz : ¬ (9223372036854775807 : Int) < 10 + (v.size : Int) := by omega
 have zn : ¬ 9223372036854775807 < 10 + v.size := by omega
 refine wp_region_held_drew (S := (fun wr : World => wr.cell? ⟨w.heap.size, 0, none⟩ = some (.int .i64 4) ∧ wr.cell? ⟨w.heap.size, 1, none⟩ = some (.int .i64 1) ∧ wr.cell? ⟨w.heap.size, 2, none⟩ = some (.string v))) (by kernel_rfl) ⟨s0, s1, s2⟩ (fun hHeld => ?_); refine wpAnyH_take (i := 1) (v := ?_) rfl (by kernel_rfl) (by kernel_rfl) (by kernel_rfl) (fun _ _ _ h => h) (Or.inl ⟨by rfl, ?h1⟩) (by assumption) ?r1
 case h1 =>
  intro w hSw
  try dsimp only at hSw
  go_simp
  try with_reducible rfl
 try simp only [Act.put, List.setIfInBounds_toArray, List.set_cons_zero, List.set_cons_succ]
 refine wpAnyH_take (i := 2) (v := ?_) rfl (by kernel_rfl) (by kernel_rfl) (by kernel_rfl) (fun _ _ _ h => h) (Or.inl ⟨by rfl, ?h2⟩) (by assumption) ?r2
 case h2 =>
  intro w hSw
  try dsimp only at hSw
  go_simp
  try with_reducible rfl
 try simp only [Act.put, List.setIfInBounds_toArray, List.set_cons_zero, List.set_cons_succ]
 refine wpAnyH_take (i := 6) (v := ?_) rfl (by kernel_rfl) (by kernel_rfl) (by kernel_rfl) (fun _ _ _ h => h) (Or.inl ⟨by rfl, ?h6⟩) (by assumption) ?r6
 case h6 =>
  intro w hSw
  try dsimp only at hSw
  go_simp
  try with_reducible rfl
 try simp only [Act.put, List.setIfInBounds_toArray, List.set_cons_zero, List.set_cons_succ]
 refine wpAnyH_take (i := 7) (v := ?_) rfl (by kernel_rfl) (by kernel_rfl) (by kernel_rfl) (fun _ _ _ h => h) (Or.inl ⟨by rfl, ?h7⟩) (by assumption) ?r7
 case h7 =>
  intro w hSw
  try dsimp only at hSw
  go_simp
  try with_reducible rfl
 try simp only [Act.put, List.setIfInBounds_toArray, List.set_cons_zero, List.set_cons_succ]
 refine wpAnyH_take (i := 12) (v := ?_) rfl (by kernel_rfl) (by kernel_rfl) (by kernel_rfl) (fun _ _ _ h => h) (Or.inl ⟨by rfl, ?h12⟩) (by assumption) ?r12
 case h12 =>
  intro w hSw
  try dsimp only at hSw
  go_simp
  try with_reducible rfl
 try simp only [Act.put, List.setIfInBounds_toArray, List.set_cons_zero, List.set_cons_succ]
 refine wpAnyH_take (i := 13) (v := ?_) rfl (by kernel_rfl) (by kernel_rfl) (by kernel_rfl) (fun _ _ _ h => h) (Or.inl ⟨by rfl, ?h13⟩) (by assumption) ?r13
 case h13 =>
  intro w hSw
  try dsimp only at hSw
  go_simp
  try with_reducible rfl
 try simp only [Act.put, List.setIfInBounds_toArray, List.set_cons_zero, List.set_cons_succ]
 refine wpAnyH_ready (rs := [0]) (by kernel_rfl) (by simp) (AllReadyH.cons rfl (fun K hK => ?_) AllReadyH.nil)
 go_simp
 go_at_call 89; (with_reducible refine (words_any _).mono ?_); rintro _ x4 ⟨rfl, hb⟩; have HX4 := Zh (show Bxs w x4 _ from hb ▸ HV0.out.put 9 #[.string ⟨#[]⟩, .string ⟨#[110, 97, 109, 101]⟩, .string ⟨#[111, 114, 103]⟩, .string ⟨#[116, 101, 108]⟩, .string ⟨#[109, 97, 105, 108]⟩, .string ⟨#[100, 97, 121]⟩, .string ⟨#[110, 111, 116, 101]⟩] w3.heap.size rfl); have c40 := (HX4.out.get 0 rfl).cell 0; have c41 := (HX4.out.get 0 rfl).cell 1; have c42 := (HX4.out.get 0 rfl).cell 2; have c1 := (HX4.out.get 1 rfl).cell 4; clear hb
 try go_wp2_with fail
 refine hK.out _ _ ⟨c40, c41, c42⟩ (fun hHeld => ?_); clear hK K hHeld
 try simp only [Act.put, List.setIfInBounds_toArray, List.set_cons_zero, List.set_cons_succ]
 refine wpAnyH_more (T := (fun wr : World => wr.cell? ⟨w.heap.size, 0, none⟩ = some (.int .i64 4) ∧ wr.cell? ⟨w.heap.size, 1, none⟩ = some (.int .i64 1) ∧ wr.cell? ⟨w.heap.size, 2, none⟩ = some (.string v) ∧ wr.cell? ⟨w3.heap.size, 4, none⟩ = some (.string ⟨#[109, 97, 105, 108]⟩))) (fun w h => ⟨h.1, h.2.1, h.2.2.1⟩) _ _ _ _ ?_; have hHeld : ((fun wr : World => wr.cell? ⟨w.heap.size, 0, none⟩ = some (.int .i64 4) ∧ wr.cell? ⟨w.heap.size, 1, none⟩ = some (.int .i64 1) ∧ wr.cell? ⟨w.heap.size, 2, none⟩ = some (.string v) ∧ wr.cell? ⟨w3.heap.size, 4, none⟩ = some (.string ⟨#[109, 97, 105, 108]⟩))) _ := ⟨c40, c41, c42, c1⟩; refine wpAnyH_take (i := 3) (v := ?_) rfl (by kernel_rfl) (by kernel_rfl) (by kernel_rfl) (fun _ _ _ h => h) (Or.inl ⟨by rfl, ?h3⟩) (by assumption) ?r3
 case h3 =>
  intro w hSw
  try dsimp only at hSw
  go_simp
  try with_reducible rfl
 try simp only [Act.put, List.setIfInBounds_toArray, List.set_cons_zero, List.set_cons_succ]
 refine wpAnyH_take (i := 4) (v := ?_) rfl (by kernel_rfl) (by kernel_rfl) (by kernel_rfl) (fun _ _ _ h => h) (Or.inl ⟨by rfl, ?h4⟩) (by assumption) ?r4
 case h4 =>
  intro w hSw
  try dsimp only at hSw
  go_simp
  try with_reducible rfl
 try simp only [Act.put, List.setIfInBounds_toArray, List.set_cons_zero, List.set_cons_succ]
 refine wpAnyH_ready (rs := [5]) (by kernel_rfl) (by simp) (AllReadyH.cons rfl (fun K hK => ?_) AllReadyH.nil)
 go_simp
 go_at_call 90; (with_reducible refine (labels_any _).mono ?_); rintro _ x5 ⟨rfl, hb⟩; have HX5 := Zh (show Bxs w x5 _ from hb ▸ HX4.out.put 9 #[.string ⟨#[]⟩, .string ⟨#[59, 104, 111, 109, 101]⟩, .string ⟨#[59, 119, 111, 114, 107]⟩, .string ⟨#[59, 99, 101, 108, 108]⟩] x4.heap.size rfl); have c50 := (HX5.out.get 0 rfl).cell 0; have c51 := (HX5.out.get 0 rfl).cell 1; have c52 := (HX5.out.get 0 rfl).cell 2; have c2 := (HX5.out.get 1 rfl).cell 4; have c3 := (HX5.out.get 2 rfl).cell 1; clear hb
 try go_wp2_with fail
 refine hK.out _ _ ⟨c50, c51, c52, c2⟩ (fun hHeld => ?_); clear hK K hHeld
 try simp only [Act.put, List.setIfInBounds_toArray, List.set_cons_zero, List.set_cons_succ]
 refine wpAnyH_more (T := (fun wr : World => wr.cell? ⟨w.heap.size, 0, none⟩ = some (.int .i64 4) ∧ wr.cell? ⟨w.heap.size, 1, none⟩ = some (.int .i64 1) ∧ wr.cell? ⟨w.heap.size, 2, none⟩ = some (.string v) ∧ wr.cell? ⟨w3.heap.size, 4, none⟩ = some (.string ⟨#[109, 97, 105, 108]⟩) ∧ wr.cell? ⟨x4.heap.size, 1, none⟩ = some (.string ⟨#[59, 104, 111, 109, 101]⟩))) (fun w h => ⟨h.1, h.2.1, h.2.2.1, h.2.2.2.1⟩) _ _ _ _ ?_; have hHeld : ((fun wr : World => wr.cell? ⟨w.heap.size, 0, none⟩ = some (.int .i64 4) ∧ wr.cell? ⟨w.heap.size, 1, none⟩ = some (.int .i64 1) ∧ wr.cell? ⟨w.heap.size, 2, none⟩ = some (.string v) ∧ wr.cell? ⟨w3.heap.size, 4, none⟩ = some (.string ⟨#[109, 97, 105, 108]⟩) ∧ wr.cell? ⟨x4.heap.size, 1, none⟩ = some (.string ⟨#[59, 104, 111, 109, 101]⟩))) _ := ⟨c50, c51, c52, c2, c3⟩; refine wpAnyH_take (i := 8) (v := ?_) rfl (by kernel_rfl) (by kernel_rfl) (by kernel_rfl) (fun _ _ _ h => h) (Or.inl ⟨by rfl, ?h8⟩) (by assumption) ?r8
 case h8 =>
  intro w hSw
  try dsimp only at hSw
  go_simp
  try with_reducible rfl
 try simp only [Act.put, List.setIfInBounds_toArray, List.set_cons_zero, List.set_cons_succ]
 refine wpAnyH_take (i := 9) (v := ?_) rfl (by kernel_rfl) (by kernel_rfl) (by kernel_rfl) (fun _ _ _ h => h) (Or.inl ⟨by rfl, ?h9⟩) (by assumption) ?r9
 case h9 =>
  intro w hSw
  try dsimp only at hSw
  go_simp
  try with_reducible rfl
 try simp only [Act.put, List.setIfInBounds_toArray, List.set_cons_zero, List.set_cons_succ]
 refine wpAnyH_take (i := 10) (v := ?_) rfl (by kernel_rfl) (by kernel_rfl) (by kernel_rfl) (fun _ _ _ h => h) (Or.inl ⟨by rfl, ?h10⟩) (by assumption) ?r10
 case h10 =>
  intro w hSw
  try dsimp only at hSw
  go_simp
  try with_reducible rfl
 try simp only [Act.put, List.setIfInBounds_toArray, List.set_cons_zero, List.set_cons_succ]
 refine wpAnyH_take (i := 11) (v := ?_) rfl (by kernel_rfl) (by kernel_rfl) (by kernel_rfl) (fun _ _ _ h => h) (Or.inl ⟨by rfl, ?h11⟩) (by assumption) ?r11
 case h11 =>
  intro w hSw
  try dsimp only at hSw
  go_simp
  try with_reducible rfl
 try simp only [Act.put, List.setIfInBounds_toArray, List.set_cons_zero, List.set_cons_succ]
 refine wpAnyH_take (i := 14) (v := ?_) rfl (by kernel_rfl) (by kernel_rfl) (by kernel_rfl) (fun _ _ _ h => h) (Or.inl ⟨by rfl, ?h14⟩) (by assumption) ?r14
 case h14 =>
  intro w hSw
  try dsimp only at hSw
  go_simp
  try with_reducible rfl
 try simp only [Act.put, List.setIfInBounds_toArray, List.set_cons_zero, List.set_cons_succ]
 refine wpAnyH_take (i := 15) (v := ?_) rfl (by kernel_rfl) (by kernel_rfl) (by kernel_rfl) (fun _ _ _ h => h) (Or.inl ⟨by rfl, ?h15⟩) (by assumption) ?r15
 case h15 =>
  intro w hSw
  try dsimp only at hSw
  go_simp
  try with_reducible rfl
 try simp only [Act.put, List.setIfInBounds_toArray, List.set_cons_zero, List.set_cons_succ]
 refine wpAnyH_done (by kernel_rfl) ?_ _
 go_wp2
 go_ret
 exact ⟨by rw [H0.out]; rfl, HX5.out.bel⟩
theorem rline_42 (v : ByteArray) (hs : v.size ≤ 1000000) (w : World) (hm : mayF 4 2 v = true) : Calls Tryz.prog 105 #[fieldV 4 2 v] w fun e w' => e = .returned (.string (lineF 4 2 v)) ∧ Below w.heap.size w w' := by
 have HX0 := Zh ((Bxs.start w).new 92 #[.int .i64 4, .int .i64 2, .string v]); have HC := Zh (fun w => frmay_any 4 2 v hs w); have hsI : (v.size : Int) ≤ 1000000 := by omega
 have H0 := Zh (show lineF 4 2 v = ((⟨#[109, 97, 105, 108]⟩ ++ ⟨#[59, 119, 111, 114, 107]⟩) ++ ⟨#[58]⟩) ++ v by unfold lineF; rw [if_pos hm]; rfl); rw [hm] at HC; clear hm hs; have z1 : ((⟨#[109, 97, 105, 108]⟩ : ByteArray).size : Int) = 4 := rfl; have z2 : ((⟨#[59, 119, 111, 114, 107]⟩ : ByteArray).size : Int) = 5 := rfl; have z4 : (((⟨#[109, 97, 105, 108]⟩ : ByteArray) ++ ⟨#[59, 119, 111, 114, 107]⟩).size : Int) = 9 := rfl; have z5 : ((((⟨#[109, 97, 105, 108]⟩ : ByteArray) ++ ⟨#[59, 119, 111, 114, 107]⟩) ++ (⟨#[58]⟩ : ByteArray)).size : Int) = 10 := rfl
 go_enter Tryz.func105, Tryz.ntmps105
 go_wp2_with (go_at_call 91; (with_reducible refine (HC.out _).mono ?_); rintro e w3 ⟨rfl, hb⟩; have HX3 := Zh (HX0.out.step hb); clear hb)
 have HV0 := Zh (HX3.out.drewN 1); have s0 := (HV0.out.get 0 rfl).cell 0; have s1 := (HV0.out.get 0 rfl).cell 1; have s2 := (HV0.out.get 0 rfl).cell 2; have zz : ¬ (9223372036854775807 : Int) < 10 + (v.size : Int) := by omega
 have zn : ¬ 9223372036854775807 < 10 + v.size := by omega
 refine wp_region_held_drew (S := (fun wr : World => wr.cell? ⟨w.heap.size, 0, none⟩ = some (.int .i64 4) ∧ wr.cell? ⟨w.heap.size, 1, none⟩ = some (.int .i64 2) ∧ wr.cell? ⟨w.heap.size, 2, none⟩ = some (.string v))) (by kernel_rfl) ⟨s0, s1, s2⟩ (fun hHeld => ?_); refine wpAnyH_take (i := 1) (v := ?_) rfl (by kernel_rfl) (by kernel_rfl) (by kernel_rfl) (fun _ _ _ h => h) (Or.inl ⟨by rfl, ?h1⟩) (by assumption) ?r1
 case h1 =>
  intro w hSw
  try dsimp only at hSw
  go_simp
  try with_reducible rfl
 try simp only [Act.put, List.setIfInBounds_toArray, List.set_cons_zero, List.set_cons_succ]
 refine wpAnyH_take (i := 2) (v := ?_) rfl (by kernel_rfl) (by kernel_rfl) (by kernel_rfl) (fun _ _ _ h => h) (Or.inl ⟨by rfl, ?h2⟩) (by assumption) ?r2
 case h2 =>
  intro w hSw
  try dsimp only at hSw
  go_simp
  try with_reducible rfl
 try simp only [Act.put, List.setIfInBounds_toArray, List.set_cons_zero, List.set_cons_succ]
 refine wpAnyH_take (i := 6) (v := ?_) rfl (by kernel_rfl) (by kernel_rfl) (by kernel_rfl) (fun _ _ _ h => h) (Or.inl ⟨by rfl, ?h6⟩) (by assumption) ?r6
 case h6 =>
  intro w hSw
  try dsimp only at hSw
  go_simp
  try with_reducible rfl
 try simp only [Act.put, List.setIfInBounds_toArray, List.set_cons_zero, List.set_cons_succ]
 refine wpAnyH_take (i := 7) (v := ?_) rfl (by kernel_rfl) (by kernel_rfl) (by kernel_rfl) (fun _ _ _ h => h) (Or.inl ⟨by rfl, ?h7⟩) (by assumption) ?r7
 case h7 =>
  intro w hSw
  try dsimp only at hSw
  go_simp
  try with_reducible rfl
 try simp only [Act.put, List.setIfInBounds_toArray, List.set_cons_zero, List.set_cons_succ]
 refine wpAnyH_take (i := 12) (v := ?_) rfl (by kernel_rfl) (by kernel_rfl) (by kernel_rfl) (fun _ _ _ h => h) (Or.inl ⟨by rfl, ?h12⟩) (by assumption) ?r12
 case h12 =>
  intro w hSw
  try dsimp only at hSw
  go_simp
  try with_reducible rfl
 try simp only [Act.put, List.setIfInBounds_toArray, List.set_cons_zero, List.set_cons_succ]
 refine wpAnyH_take (i := 13) (v := ?_) rfl (by kernel_rfl) (by kernel_rfl) (by kernel_rfl) (fun _ _ _ h => h) (Or.inl ⟨by rfl, ?h13⟩) (by assumption) ?r13
 case h13 =>
  intro w hSw
  try dsimp only at hSw
  go_simp
  try with_reducible rfl
 try simp only [Act.put, List.setIfInBounds_toArray, List.set_cons_zero, List.set_cons_succ]
 refine wpAnyH_ready (rs := [0]) (by kernel_rfl) (by simp) (AllReadyH.cons rfl (fun K hK => ?_) AllReadyH.nil)
 go_simp
 go_at_call 89; (with_reducible refine (words_any _).mono ?_); rintro _ x4 ⟨rfl, hb⟩; have HX4 := Zh (show Bxs w x4 _ from hb ▸ HV0.out.put 9 #[.string ⟨#[]⟩, .string ⟨#[110, 97, 109, 101]⟩, .string ⟨#[111, 114, 103]⟩, .string ⟨#[116, 101, 108]⟩, .string ⟨#[109, 97, 105, 108]⟩, .string ⟨#[100, 97, 121]⟩, .string ⟨#[110, 111, 116, 101]⟩] w3.heap.size rfl); have c40 := (HX4.out.get 0 rfl).cell 0; have c41 := (HX4.out.get 0 rfl).cell 1; have c42 := (HX4.out.get 0 rfl).cell 2; have c1 := (HX4.out.get 1 rfl).cell 4; clear hb
 try go_wp2_with fail
 refine hK.out _ _ ⟨c40, c41, c42⟩ (fun hHeld => ?_); clear hK K hHeld
 try simp only [Act.put, List.setIfInBounds_toArray, List.set_cons_zero, List.set_cons_succ]
 refine wpAnyH_more (T := (fun wr : World => wr.cell? ⟨w.heap.size, 0, none⟩ = some (.int .i64 4) ∧ wr.cell? ⟨w.heap.size, 1, none⟩ = some (.int .i64 2) ∧ wr.cell? ⟨w.heap.size, 2, none⟩ = some (.string v) ∧ wr.cell? ⟨w3.heap.size, 4, none⟩ = some (.string ⟨#[109, 97, 105, 108]⟩))) (fun w h => ⟨h.1, h.2.1, h.2.2.1⟩) _ _ _ _ ?_; have hHeld : ((fun wr : World => wr.cell? ⟨w.heap.size, 0, none⟩ = some (.int .i64 4) ∧ wr.cell? ⟨w.heap.size, 1, none⟩ = some (.int .i64 2) ∧ wr.cell? ⟨w.heap.size, 2, none⟩ = some (.string v) ∧ wr.cell? ⟨w3.heap.size, 4, none⟩ = some (.string ⟨#[109, 97, 105, 108]⟩))) _ := ⟨c40, c41, c42, c1⟩; refine wpAnyH_take (i := 3) (v := ?_) rfl (by kernel_rfl) (by kernel_rfl) (by kernel_rfl) (fun _ _ _ h => h) (Or.inl ⟨by rfl, ?h3⟩) (by assumption) ?r3
 case h3 =>
  intro w hSw
  try dsimp only at hSw
  go_simp
  try with_reducible rfl
 try simp only [Act.put, List.setIfInBounds_toArray, List.set_cons_zero, List.set_cons_succ]
 refine wpAnyH_take (i := 4) (v := ?_) rfl (by kernel_rfl) (by kernel_rfl) (by kernel_rfl) (fun _ _ _ h => h) (Or.inl ⟨by rfl, ?h4⟩) (by assumption) ?r4
 case h4 =>
  intro w hSw
  try dsimp only at hSw
  go_simp
  try with_reducible rfl
 try simp only [Act.put, List.setIfInBounds_toArray, List.set_cons_zero, List.set_cons_succ]
 refine wpAnyH_ready (rs := [5]) (by kernel_rfl) (by simp) (AllReadyH.cons rfl (fun K hK => ?_) AllReadyH.nil)
 go_simp
 go_at_call 90; (with_reducible refine (labels_any _).mono ?_); rintro _ x5 ⟨rfl, hb⟩; have HX5 := Zh (show Bxs w x5 _ from hb ▸ HX4.out.put 9 #[.string ⟨#[]⟩, .string ⟨#[59, 104, 111, 109, 101]⟩, .string ⟨#[59, 119, 111, 114, 107]⟩, .string ⟨#[59, 99, 101, 108, 108]⟩] x4.heap.size rfl); have c50 := (HX5.out.get 0 rfl).cell 0; have c51 := (HX5.out.get 0 rfl).cell 1; have c52 := (HX5.out.get 0 rfl).cell 2; have c2 := (HX5.out.get 1 rfl).cell 4; have c3 := (HX5.out.get 2 rfl).cell 2; clear hb
 try go_wp2_with fail
 refine hK.out _ _ ⟨c50, c51, c52, c2⟩ (fun hHeld => ?_); clear hK K hHeld
 try simp only [Act.put, List.setIfInBounds_toArray, List.set_cons_zero, List.set_cons_succ]
 refine wpAnyH_more (T := (fun wr : World => wr.cell? ⟨w.heap.size, 0, none⟩ = some (.int .i64 4) ∧ wr.cell? ⟨w.heap.size, 1, none⟩ = some (.int .i64 2) ∧ wr.cell? ⟨w.heap.size, 2, none⟩ = some (.string v) ∧ wr.cell? ⟨w3.heap.size, 4, none⟩ = some (.string ⟨#[109, 97, 105, 108]⟩) ∧ wr.cell? ⟨x4.heap.size, 2, none⟩ = some (.string ⟨#[59, 119, 111, 114, 107]⟩))) (fun w h => ⟨h.1, h.2.1, h.2.2.1, h.2.2.2.1⟩) _ _ _ _ ?_; have hHeld : ((fun wr : World => wr.cell? ⟨w.heap.size, 0, none⟩ = some (.int .i64 4) ∧ wr.cell? ⟨w.heap.size, 1, none⟩ = some (.int .i64 2) ∧ wr.cell? ⟨w.heap.size, 2, none⟩ = some (.string v) ∧ wr.cell? ⟨w3.heap.size, 4, none⟩ = some (.string ⟨#[109, 97, 105, 108]⟩) ∧ wr.cell? ⟨x4.heap.size, 2, none⟩ = some (.string ⟨#[59, 119, 111, 114, 107]⟩))) _ := ⟨c50, c51, c52, c2, c3⟩; refine wpAnyH_take (i := 8) (v := ?_) rfl (by kernel_rfl) (by kernel_rfl) (by kernel_rfl) (fun _ _ _ h => h) (Or.inl ⟨by rfl, ?h8⟩) (by assumption) ?r8
 case h8 =>
  intro w hSw
  try dsimp only at hSw
  go_simp
  try with_reducible rfl
 try simp only [Act.put, List.setIfInBounds_toArray, List.set_cons_zero, List.set_cons_succ]
 refine wpAnyH_take (i := 9) (v := ?_) rfl (by kernel_rfl) (by kernel_rfl) (by kernel_rfl) (fun _ _ _ h => h) (Or.inl ⟨by rfl, ?h9⟩) (by assumption) ?r9
 case h9 =>
  intro w hSw
  try dsimp only at hSw
  go_simp
  try with_reducible rfl
 try simp only [Act.put, List.setIfInBounds_toArray, List.set_cons_zero, List.set_cons_succ]
 refine wpAnyH_take (i := 10) (v := ?_) rfl (by kernel_rfl) (by kernel_rfl) (by kernel_rfl) (fun _ _ _ h => h) (Or.inl ⟨by rfl, ?h10⟩) (by assumption) ?r10
 case h10 =>
  intro w hSw
  try dsimp only at hSw
  go_simp
  try with_reducible rfl
 try simp only [Act.put, List.setIfInBounds_toArray, List.set_cons_zero, List.set_cons_succ]
 refine wpAnyH_take (i := 11) (v := ?_) rfl (by kernel_rfl) (by kernel_rfl) (by kernel_rfl) (fun _ _ _ h => h) (Or.inl ⟨by rfl, ?h11⟩) (by assumption) ?r11
 case h11 =>
  intro w hSw
  try dsimp only at hSw
  go_simp
  try with_reducible rfl
 try simp only [Act.put, List.setIfInBounds_toArray, List.set_cons_zero, List.set_cons_succ]
 refine wpAnyH_take (i := 14) (v := ?_) rfl (by kernel_rfl) (by kernel_rfl) (by kernel_rfl) (fun _ _ _ h => h) (Or.inl ⟨by rfl, ?h14⟩) (by assumption) ?r14
 case h14 =>
  intro w hSw
  try dsimp only at hSw
  go_simp
  try with_reducible rfl
 try simp only [Act.put, List.setIfInBounds_toArray, List.set_cons_zero, List.set_cons_succ]
 refine wpAnyH_take (i := 15) (v := ?_) rfl (by kernel_rfl) (by kernel_rfl) (by kernel_rfl) (fun _ _ _ h => h) (Or.inl ⟨by rfl, ?h15⟩) (by assumption) ?r15
 case h15 =>
  intro w hSw
  try dsimp only at hSw
  go_simp
  try with_reducible rfl
 try simp only [Act.put, List.setIfInBounds_toArray, List.set_cons_zero, List.set_cons_succ]
 refine wpAnyH_done (by kernel_rfl) ?_ _
 go_wp2
 go_ret
 exact ⟨by rw [H0.out]; rfl, HX5.out.bel⟩
theorem rline_50 (v : ByteArray) (hs : v.size ≤ 1000000) (w : World) (hm : mayF 5 0 v = true) : Calls Tryz.prog 105 #[fieldV 5 0 v] w fun e w' => e = .returned (.string (lineF 5 0 v)) ∧ Below w.heap.size w w' := by
 have HX0 := Zh ((Bxs.start w).new 92 #[.int .i64 5, .int .i64 0, .string v]); have HC := Zh (fun w => frmay_any 5 0 v hs w); have hsI : (v.size : Int) ≤ 1000000 := by omega
 have H0 := Zh (show lineF 5 0 v = ((⟨#[100, 97, 121]⟩ ++ ⟨#[]⟩) ++ ⟨#[58]⟩) ++ v by unfold lineF; rw [if_pos hm]; rfl); rw [hm] at HC; clear hm hs; have z1 : ((⟨#[100, 97, 121]⟩ : ByteArray).size : Int) = 3 := rfl; have z2 : ((⟨#[]⟩ : ByteArray).size : Int) = 0 := rfl; have z4 : (((⟨#[100, 97, 121]⟩ : ByteArray) ++ ⟨#[]⟩).size : Int) = 3 := rfl; have z5 : ((((⟨#[100, 97, 121]⟩ : ByteArray) ++ ⟨#[]⟩) ++ (⟨#[58]⟩ : ByteArray)).size : Int) = 4 := rfl
 go_enter Tryz.func105, Tryz.ntmps105
 go_wp2_with (go_at_call 91; (with_reducible refine (HC.out _).mono ?_); rintro e w3 ⟨rfl, hb⟩; have HX3 := Zh (HX0.out.step hb); clear hb)
 have HV0 := Zh (HX3.out.drewN 1); have s0 := (HV0.out.get 0 rfl).cell 0; have s1 := (HV0.out.get 0 rfl).cell 1; have s2 := (HV0.out.get 0 rfl).cell 2; have zz : ¬ (9223372036854775807 : Int) < 4 + (v.size : Int) := by omega
 have zn : ¬ 9223372036854775807 < 4 + v.size := by omega
 refine wp_region_held_drew (S := (fun wr : World => wr.cell? ⟨w.heap.size, 0, none⟩ = some (.int .i64 5) ∧ wr.cell? ⟨w.heap.size, 1, none⟩ = some (.int .i64 0) ∧ wr.cell? ⟨w.heap.size, 2, none⟩ = some (.string v))) (by kernel_rfl) ⟨s0, s1, s2⟩ (fun hHeld => ?_); refine wpAnyH_take (i := 1) (v := ?_) rfl (by kernel_rfl) (by kernel_rfl) (by kernel_rfl) (fun _ _ _ h => h) (Or.inl ⟨by rfl, ?h1⟩) (by assumption) ?r1
 case h1 =>
  intro w hSw
  try dsimp only at hSw
  go_simp
  try with_reducible rfl
 try simp only [Act.put, List.setIfInBounds_toArray, List.set_cons_zero, List.set_cons_succ]
 refine wpAnyH_take (i := 2) (v := ?_) rfl (by kernel_rfl) (by kernel_rfl) (by kernel_rfl) (fun _ _ _ h => h) (Or.inl ⟨by rfl, ?h2⟩) (by assumption) ?r2
 case h2 =>
  intro w hSw
  try dsimp only at hSw
  go_simp
  try with_reducible rfl
 try simp only [Act.put, List.setIfInBounds_toArray, List.set_cons_zero, List.set_cons_succ]
 refine wpAnyH_take (i := 6) (v := ?_) rfl (by kernel_rfl) (by kernel_rfl) (by kernel_rfl) (fun _ _ _ h => h) (Or.inl ⟨by rfl, ?h6⟩) (by assumption) ?r6
 case h6 =>
  intro w hSw
  try dsimp only at hSw
  go_simp
  try with_reducible rfl
 try simp only [Act.put, List.setIfInBounds_toArray, List.set_cons_zero, List.set_cons_succ]
 refine wpAnyH_take (i := 7) (v := ?_) rfl (by kernel_rfl) (by kernel_rfl) (by kernel_rfl) (fun _ _ _ h => h) (Or.inl ⟨by rfl, ?h7⟩) (by assumption) ?r7
 case h7 =>
  intro w hSw
  try dsimp only at hSw
  go_simp
  try with_reducible rfl
 try simp only [Act.put, List.setIfInBounds_toArray, List.set_cons_zero, List.set_cons_succ]
 refine wpAnyH_take (i := 12) (v := ?_) rfl (by kernel_rfl) (by kernel_rfl) (by kernel_rfl) (fun _ _ _ h => h) (Or.inl ⟨by rfl, ?h12⟩) (by assumption) ?r12
 case h12 =>
  intro w hSw
  try dsimp only at hSw
  go_simp
  try with_reducible rfl
 try simp only [Act.put, List.setIfInBounds_toArray, List.set_cons_zero, List.set_cons_succ]
 refine wpAnyH_take (i := 13) (v := ?_) rfl (by kernel_rfl) (by kernel_rfl) (by kernel_rfl) (fun _ _ _ h => h) (Or.inl ⟨by rfl, ?h13⟩) (by assumption) ?r13
 case h13 =>
  intro w hSw
  try dsimp only at hSw
  go_simp
  try with_reducible rfl
 try simp only [Act.put, List.setIfInBounds_toArray, List.set_cons_zero, List.set_cons_succ]
 refine wpAnyH_ready (rs := [0]) (by kernel_rfl) (by simp) (AllReadyH.cons rfl (fun K hK => ?_) AllReadyH.nil)
 go_simp
 go_at_call 89; (with_reducible refine (words_any _).mono ?_); rintro _ x4 ⟨rfl, hb⟩; have HX4 := Zh (show Bxs w x4 _ from hb ▸ HV0.out.put 9 #[.string ⟨#[]⟩, .string ⟨#[110, 97, 109, 101]⟩, .string ⟨#[111, 114, 103]⟩, .string ⟨#[116, 101, 108]⟩, .string ⟨#[109, 97, 105, 108]⟩, .string ⟨#[100, 97, 121]⟩, .string ⟨#[110, 111, 116, 101]⟩] w3.heap.size rfl); have c40 := (HX4.out.get 0 rfl).cell 0; have c41 := (HX4.out.get 0 rfl).cell 1; have c42 := (HX4.out.get 0 rfl).cell 2; have c1 := (HX4.out.get 1 rfl).cell 5; clear hb
 try go_wp2_with fail
 refine hK.out _ _ ⟨c40, c41, c42⟩ (fun hHeld => ?_); clear hK K hHeld
 try simp only [Act.put, List.setIfInBounds_toArray, List.set_cons_zero, List.set_cons_succ]
 refine wpAnyH_more (T := (fun wr : World => wr.cell? ⟨w.heap.size, 0, none⟩ = some (.int .i64 5) ∧ wr.cell? ⟨w.heap.size, 1, none⟩ = some (.int .i64 0) ∧ wr.cell? ⟨w.heap.size, 2, none⟩ = some (.string v) ∧ wr.cell? ⟨w3.heap.size, 5, none⟩ = some (.string ⟨#[100, 97, 121]⟩))) (fun w h => ⟨h.1, h.2.1, h.2.2.1⟩) _ _ _ _ ?_; have hHeld : ((fun wr : World => wr.cell? ⟨w.heap.size, 0, none⟩ = some (.int .i64 5) ∧ wr.cell? ⟨w.heap.size, 1, none⟩ = some (.int .i64 0) ∧ wr.cell? ⟨w.heap.size, 2, none⟩ = some (.string v) ∧ wr.cell? ⟨w3.heap.size, 5, none⟩ = some (.string ⟨#[100, 97, 121]⟩))) _ := ⟨c40, c41, c42, c1⟩; refine wpAnyH_take (i := 3) (v := ?_) rfl (by kernel_rfl) (by kernel_rfl) (by kernel_rfl) (fun _ _ _ h => h) (Or.inl ⟨by rfl, ?h3⟩) (by assumption) ?r3
 case h3 =>
  intro w hSw
  try dsimp only at hSw
  go_simp
  try with_reducible rfl
 try simp only [Act.put, List.setIfInBounds_toArray, List.set_cons_zero, List.set_cons_succ]
 refine wpAnyH_take (i := 4) (v := ?_) rfl (by kernel_rfl) (by kernel_rfl) (by kernel_rfl) (fun _ _ _ h => h) (Or.inl ⟨by rfl, ?h4⟩) (by assumption) ?r4
 case h4 =>
  intro w hSw
  try dsimp only at hSw
  go_simp
  try with_reducible rfl
 try simp only [Act.put, List.setIfInBounds_toArray, List.set_cons_zero, List.set_cons_succ]
 refine wpAnyH_ready (rs := [5]) (by kernel_rfl) (by simp) (AllReadyH.cons rfl (fun K hK => ?_) AllReadyH.nil)
 go_simp
 go_at_call 90; (with_reducible refine (labels_any _).mono ?_); rintro _ x5 ⟨rfl, hb⟩; have HX5 := Zh (show Bxs w x5 _ from hb ▸ HX4.out.put 9 #[.string ⟨#[]⟩, .string ⟨#[59, 104, 111, 109, 101]⟩, .string ⟨#[59, 119, 111, 114, 107]⟩, .string ⟨#[59, 99, 101, 108, 108]⟩] x4.heap.size rfl); have c50 := (HX5.out.get 0 rfl).cell 0; have c51 := (HX5.out.get 0 rfl).cell 1; have c52 := (HX5.out.get 0 rfl).cell 2; have c2 := (HX5.out.get 1 rfl).cell 5; have c3 := (HX5.out.get 2 rfl).cell 0; clear hb
 try go_wp2_with fail
 refine hK.out _ _ ⟨c50, c51, c52, c2⟩ (fun hHeld => ?_); clear hK K hHeld
 try simp only [Act.put, List.setIfInBounds_toArray, List.set_cons_zero, List.set_cons_succ]
 refine wpAnyH_more (T := (fun wr : World => wr.cell? ⟨w.heap.size, 0, none⟩ = some (.int .i64 5) ∧ wr.cell? ⟨w.heap.size, 1, none⟩ = some (.int .i64 0) ∧ wr.cell? ⟨w.heap.size, 2, none⟩ = some (.string v) ∧ wr.cell? ⟨w3.heap.size, 5, none⟩ = some (.string ⟨#[100, 97, 121]⟩) ∧ wr.cell? ⟨x4.heap.size, 0, none⟩ = some (.string ⟨#[]⟩))) (fun w h => ⟨h.1, h.2.1, h.2.2.1, h.2.2.2.1⟩) _ _ _ _ ?_; have hHeld : ((fun wr : World => wr.cell? ⟨w.heap.size, 0, none⟩ = some (.int .i64 5) ∧ wr.cell? ⟨w.heap.size, 1, none⟩ = some (.int .i64 0) ∧ wr.cell? ⟨w.heap.size, 2, none⟩ = some (.string v) ∧ wr.cell? ⟨w3.heap.size, 5, none⟩ = some (.string ⟨#[100, 97, 121]⟩) ∧ wr.cell? ⟨x4.heap.size, 0, none⟩ = some (.string ⟨#[]⟩))) _ := ⟨c50, c51, c52, c2, c3⟩; refine wpAnyH_take (i := 8) (v := ?_) rfl (by kernel_rfl) (by kernel_rfl) (by kernel_rfl) (fun _ _ _ h => h) (Or.inl ⟨by rfl, ?h8⟩) (by assumption) ?r8
 case h8 =>
  intro w hSw
  try dsimp only at hSw
  go_simp
  try with_reducible rfl
 try simp only [Act.put, List.setIfInBounds_toArray, List.set_cons_zero, List.set_cons_succ]
 refine wpAnyH_take (i := 9) (v := ?_) rfl (by kernel_rfl) (by kernel_rfl) (by kernel_rfl) (fun _ _ _ h => h) (Or.inl ⟨by rfl, ?h9⟩) (by assumption) ?r9
 case h9 =>
  intro w hSw
  try dsimp only at hSw
  go_simp
  try with_reducible rfl
 try simp only [Act.put, List.setIfInBounds_toArray, List.set_cons_zero, List.set_cons_succ]
 refine wpAnyH_take (i := 10) (v := ?_) rfl (by kernel_rfl) (by kernel_rfl) (by kernel_rfl) (fun _ _ _ h => h) (Or.inl ⟨by rfl, ?h10⟩) (by assumption) ?r10
 case h10 =>
  intro w hSw
  try dsimp only at hSw
  go_simp
  try with_reducible rfl
 try simp only [Act.put, List.setIfInBounds_toArray, List.set_cons_zero, List.set_cons_succ]
 refine wpAnyH_take (i := 11) (v := ?_) rfl (by kernel_rfl) (by kernel_rfl) (by kernel_rfl) (fun _ _ _ h => h) (Or.inl ⟨by rfl, ?h11⟩) (by assumption) ?r11
 case h11 =>
  intro w hSw
  try dsimp only at hSw
  go_simp
  try with_reducible rfl
 try simp only [Act.put, List.setIfInBounds_toArray, List.set_cons_zero, List.set_cons_succ]
 refine wpAnyH_take (i := 14) (v := ?_) rfl (by kernel_rfl) (by kernel_rfl) (by kernel_rfl) (fun _ _ _ h => h) (Or.inl ⟨by rfl, ?h14⟩) (by assumption) ?r14
 case h14 =>
  intro w hSw
  try dsimp only at hSw
  go_simp
  try with_reducible rfl
 try simp only [Act.put, List.setIfInBounds_toArray, List.set_cons_zero, List.set_cons_succ]
 refine wpAnyH_take (i := 15) (v := ?_) rfl (by kernel_rfl) (by kernel_rfl) (by kernel_rfl) (fun _ _ _ h => h) (Or.inl ⟨by rfl, ?h15⟩) (by assumption) ?r15
 case h15 =>
  intro w hSw
  try dsimp only at hSw
  go_simp
  try with_reducible rfl
 try simp only [Act.put, List.setIfInBounds_toArray, List.set_cons_zero, List.set_cons_succ]
 refine wpAnyH_done (by kernel_rfl) ?_ _
 go_wp2
 go_ret
 exact ⟨by rw [H0.out]; rfl, HX5.out.bel⟩
theorem rline_60 (v : ByteArray) (hs : v.size ≤ 1000000) (w : World) (hm : mayF 6 0 v = true) : Calls Tryz.prog 105 #[fieldV 6 0 v] w fun e w' => e = .returned (.string (lineF 6 0 v)) ∧ Below w.heap.size w w' := by
 have HX0 := Zh ((Bxs.start w).new 92 #[.int .i64 6, .int .i64 0, .string v]); have HC := Zh (fun w => frmay_any 6 0 v hs w); have hsI : (v.size : Int) ≤ 1000000 := by omega
 have H0 := Zh (show lineF 6 0 v = ((⟨#[110, 111, 116, 101]⟩ ++ ⟨#[]⟩) ++ ⟨#[58]⟩) ++ v by unfold lineF; rw [if_pos hm]; rfl); rw [hm] at HC; clear hm hs; have z1 : ((⟨#[110, 111, 116, 101]⟩ : ByteArray).size : Int) = 4 := rfl; have z2 : ((⟨#[]⟩ : ByteArray).size : Int) = 0 := rfl; have z4 : (((⟨#[110, 111, 116, 101]⟩ : ByteArray) ++ ⟨#[]⟩).size : Int) = 4 := rfl; have z5 : ((((⟨#[110, 111, 116, 101]⟩ : ByteArray) ++ ⟨#[]⟩) ++ (⟨#[58]⟩ : ByteArray)).size : Int) = 5 := rfl
 go_enter Tryz.func105, Tryz.ntmps105
 go_wp2_with (go_at_call 91; (with_reducible refine (HC.out _).mono ?_); rintro e w3 ⟨rfl, hb⟩; have HX3 := Zh (HX0.out.step hb); clear hb)
 have HV0 := Zh (HX3.out.drewN 1); have s0 := (HV0.out.get 0 rfl).cell 0; have s1 := (HV0.out.get 0 rfl).cell 1; have s2 := (HV0.out.get 0 rfl).cell 2; have zz : ¬ (9223372036854775807 : Int) < 5 + (v.size : Int) := by omega
 have zn : ¬ 9223372036854775807 < 5 + v.size := by omega
 refine wp_region_held_drew (S := (fun wr : World => wr.cell? ⟨w.heap.size, 0, none⟩ = some (.int .i64 6) ∧ wr.cell? ⟨w.heap.size, 1, none⟩ = some (.int .i64 0) ∧ wr.cell? ⟨w.heap.size, 2, none⟩ = some (.string v))) (by kernel_rfl) ⟨s0, s1, s2⟩ (fun hHeld => ?_); refine wpAnyH_take (i := 1) (v := ?_) rfl (by kernel_rfl) (by kernel_rfl) (by kernel_rfl) (fun _ _ _ h => h) (Or.inl ⟨by rfl, ?h1⟩) (by assumption) ?r1
 case h1 =>
  intro w hSw
  try dsimp only at hSw
  go_simp
  try with_reducible rfl
 try simp only [Act.put, List.setIfInBounds_toArray, List.set_cons_zero, List.set_cons_succ]
 refine wpAnyH_take (i := 2) (v := ?_) rfl (by kernel_rfl) (by kernel_rfl) (by kernel_rfl) (fun _ _ _ h => h) (Or.inl ⟨by rfl, ?h2⟩) (by assumption) ?r2
 case h2 =>
  intro w hSw
  try dsimp only at hSw
  go_simp
  try with_reducible rfl
 try simp only [Act.put, List.setIfInBounds_toArray, List.set_cons_zero, List.set_cons_succ]
 refine wpAnyH_take (i := 6) (v := ?_) rfl (by kernel_rfl) (by kernel_rfl) (by kernel_rfl) (fun _ _ _ h => h) (Or.inl ⟨by rfl, ?h6⟩) (by assumption) ?r6
 case h6 =>
  intro w hSw
  try dsimp only at hSw
  go_simp
  try with_reducible rfl
 try simp only [Act.put, List.setIfInBounds_toArray, List.set_cons_zero, List.set_cons_succ]
 refine wpAnyH_take (i := 7) (v := ?_) rfl (by kernel_rfl) (by kernel_rfl) (by kernel_rfl) (fun _ _ _ h => h) (Or.inl ⟨by rfl, ?h7⟩) (by assumption) ?r7
 case h7 =>
  intro w hSw
  try dsimp only at hSw
  go_simp
  try with_reducible rfl
 try simp only [Act.put, List.setIfInBounds_toArray, List.set_cons_zero, List.set_cons_succ]
 refine wpAnyH_take (i := 12) (v := ?_) rfl (by kernel_rfl) (by kernel_rfl) (by kernel_rfl) (fun _ _ _ h => h) (Or.inl ⟨by rfl, ?h12⟩) (by assumption) ?r12
 case h12 =>
  intro w hSw
  try dsimp only at hSw
  go_simp
  try with_reducible rfl
 try simp only [Act.put, List.setIfInBounds_toArray, List.set_cons_zero, List.set_cons_succ]
 refine wpAnyH_take (i := 13) (v := ?_) rfl (by kernel_rfl) (by kernel_rfl) (by kernel_rfl) (fun _ _ _ h => h) (Or.inl ⟨by rfl, ?h13⟩) (by assumption) ?r13
 case h13 =>
  intro w hSw
  try dsimp only at hSw
  go_simp
  try with_reducible rfl
 try simp only [Act.put, List.setIfInBounds_toArray, List.set_cons_zero, List.set_cons_succ]
 refine wpAnyH_ready (rs := [0]) (by kernel_rfl) (by simp) (AllReadyH.cons rfl (fun K hK => ?_) AllReadyH.nil)
 go_simp
 go_at_call 89; (with_reducible refine (words_any _).mono ?_); rintro _ x4 ⟨rfl, hb⟩; have HX4 := Zh (show Bxs w x4 _ from hb ▸ HV0.out.put 9 #[.string ⟨#[]⟩, .string ⟨#[110, 97, 109, 101]⟩, .string ⟨#[111, 114, 103]⟩, .string ⟨#[116, 101, 108]⟩, .string ⟨#[109, 97, 105, 108]⟩, .string ⟨#[100, 97, 121]⟩, .string ⟨#[110, 111, 116, 101]⟩] w3.heap.size rfl); have c40 := (HX4.out.get 0 rfl).cell 0; have c41 := (HX4.out.get 0 rfl).cell 1; have c42 := (HX4.out.get 0 rfl).cell 2; have c1 := (HX4.out.get 1 rfl).cell 6; clear hb
 try go_wp2_with fail
 refine hK.out _ _ ⟨c40, c41, c42⟩ (fun hHeld => ?_); clear hK K hHeld
 try simp only [Act.put, List.setIfInBounds_toArray, List.set_cons_zero, List.set_cons_succ]
 refine wpAnyH_more (T := (fun wr : World => wr.cell? ⟨w.heap.size, 0, none⟩ = some (.int .i64 6) ∧ wr.cell? ⟨w.heap.size, 1, none⟩ = some (.int .i64 0) ∧ wr.cell? ⟨w.heap.size, 2, none⟩ = some (.string v) ∧ wr.cell? ⟨w3.heap.size, 6, none⟩ = some (.string ⟨#[110, 111, 116, 101]⟩))) (fun w h => ⟨h.1, h.2.1, h.2.2.1⟩) _ _ _ _ ?_; have hHeld : ((fun wr : World => wr.cell? ⟨w.heap.size, 0, none⟩ = some (.int .i64 6) ∧ wr.cell? ⟨w.heap.size, 1, none⟩ = some (.int .i64 0) ∧ wr.cell? ⟨w.heap.size, 2, none⟩ = some (.string v) ∧ wr.cell? ⟨w3.heap.size, 6, none⟩ = some (.string ⟨#[110, 111, 116, 101]⟩))) _ := ⟨c40, c41, c42, c1⟩; refine wpAnyH_take (i := 3) (v := ?_) rfl (by kernel_rfl) (by kernel_rfl) (by kernel_rfl) (fun _ _ _ h => h) (Or.inl ⟨by rfl, ?h3⟩) (by assumption) ?r3
 case h3 =>
  intro w hSw
  try dsimp only at hSw
  go_simp
  try with_reducible rfl
 try simp only [Act.put, List.setIfInBounds_toArray, List.set_cons_zero, List.set_cons_succ]
 refine wpAnyH_take (i := 4) (v := ?_) rfl (by kernel_rfl) (by kernel_rfl) (by kernel_rfl) (fun _ _ _ h => h) (Or.inl ⟨by rfl, ?h4⟩) (by assumption) ?r4
 case h4 =>
  intro w hSw
  try dsimp only at hSw
  go_simp
  try with_reducible rfl
 try simp only [Act.put, List.setIfInBounds_toArray, List.set_cons_zero, List.set_cons_succ]
 refine wpAnyH_ready (rs := [5]) (by kernel_rfl) (by simp) (AllReadyH.cons rfl (fun K hK => ?_) AllReadyH.nil)
 go_simp
 go_at_call 90; (with_reducible refine (labels_any _).mono ?_); rintro _ x5 ⟨rfl, hb⟩; have HX5 := Zh (show Bxs w x5 _ from hb ▸ HX4.out.put 9 #[.string ⟨#[]⟩, .string ⟨#[59, 104, 111, 109, 101]⟩, .string ⟨#[59, 119, 111, 114, 107]⟩, .string ⟨#[59, 99, 101, 108, 108]⟩] x4.heap.size rfl); have c50 := (HX5.out.get 0 rfl).cell 0; have c51 := (HX5.out.get 0 rfl).cell 1; have c52 := (HX5.out.get 0 rfl).cell 2; have c2 := (HX5.out.get 1 rfl).cell 6; have c3 := (HX5.out.get 2 rfl).cell 0; clear hb
 try go_wp2_with fail
 refine hK.out _ _ ⟨c50, c51, c52, c2⟩ (fun hHeld => ?_); clear hK K hHeld
 try simp only [Act.put, List.setIfInBounds_toArray, List.set_cons_zero, List.set_cons_succ]
 refine wpAnyH_more (T := (fun wr : World => wr.cell? ⟨w.heap.size, 0, none⟩ = some (.int .i64 6) ∧ wr.cell? ⟨w.heap.size, 1, none⟩ = some (.int .i64 0) ∧ wr.cell? ⟨w.heap.size, 2, none⟩ = some (.string v) ∧ wr.cell? ⟨w3.heap.size, 6, none⟩ = some (.string ⟨#[110, 111, 116, 101]⟩) ∧ wr.cell? ⟨x4.heap.size, 0, none⟩ = some (.string ⟨#[]⟩))) (fun w h => ⟨h.1, h.2.1, h.2.2.1, h.2.2.2.1⟩) _ _ _ _ ?_; have hHeld : ((fun wr : World => wr.cell? ⟨w.heap.size, 0, none⟩ = some (.int .i64 6) ∧ wr.cell? ⟨w.heap.size, 1, none⟩ = some (.int .i64 0) ∧ wr.cell? ⟨w.heap.size, 2, none⟩ = some (.string v) ∧ wr.cell? ⟨w3.heap.size, 6, none⟩ = some (.string ⟨#[110, 111, 116, 101]⟩) ∧ wr.cell? ⟨x4.heap.size, 0, none⟩ = some (.string ⟨#[]⟩))) _ := ⟨c50, c51, c52, c2, c3⟩; refine wpAnyH_take (i := 8) (v := ?_) rfl (by kernel_rfl) (by kernel_rfl) (by kernel_rfl) (fun _ _ _ h => h) (Or.inl ⟨by rfl, ?h8⟩) (by assumption) ?r8
 case h8 =>
  intro w hSw
  try dsimp only at hSw
  go_simp
  try with_reducible rfl
 try simp only [Act.put, List.setIfInBounds_toArray, List.set_cons_zero, List.set_cons_succ]
 refine wpAnyH_take (i := 9) (v := ?_) rfl (by kernel_rfl) (by kernel_rfl) (by kernel_rfl) (fun _ _ _ h => h) (Or.inl ⟨by rfl, ?h9⟩) (by assumption) ?r9
 case h9 =>
  intro w hSw
  try dsimp only at hSw
  go_simp
  try with_reducible rfl
 try simp only [Act.put, List.setIfInBounds_toArray, List.set_cons_zero, List.set_cons_succ]
 refine wpAnyH_take (i := 10) (v := ?_) rfl (by kernel_rfl) (by kernel_rfl) (by kernel_rfl) (fun _ _ _ h => h) (Or.inl ⟨by rfl, ?h10⟩) (by assumption) ?r10
 case h10 =>
  intro w hSw
  try dsimp only at hSw
  go_simp
  try with_reducible rfl
 try simp only [Act.put, List.setIfInBounds_toArray, List.set_cons_zero, List.set_cons_succ]
 refine wpAnyH_take (i := 11) (v := ?_) rfl (by kernel_rfl) (by kernel_rfl) (by kernel_rfl) (fun _ _ _ h => h) (Or.inl ⟨by rfl, ?h11⟩) (by assumption) ?r11
 case h11 =>
  intro w hSw
  try dsimp only at hSw
  go_simp
  try with_reducible rfl
 try simp only [Act.put, List.setIfInBounds_toArray, List.set_cons_zero, List.set_cons_succ]
 refine wpAnyH_take (i := 14) (v := ?_) rfl (by kernel_rfl) (by kernel_rfl) (by kernel_rfl) (fun _ _ _ h => h) (Or.inl ⟨by rfl, ?h14⟩) (by assumption) ?r14
 case h14 =>
  intro w hSw
  try dsimp only at hSw
  go_simp
  try with_reducible rfl
 try simp only [Act.put, List.setIfInBounds_toArray, List.set_cons_zero, List.set_cons_succ]
 refine wpAnyH_take (i := 15) (v := ?_) rfl (by kernel_rfl) (by kernel_rfl) (by kernel_rfl) (fun _ _ _ h => h) (Or.inl ⟨by rfl, ?h15⟩) (by assumption) ?r15
 case h15 =>
  intro w hSw
  try dsimp only at hSw
  go_simp
  try with_reducible rfl
 try simp only [Act.put, List.setIfInBounds_toArray, List.set_cons_zero, List.set_cons_succ]
 refine wpAnyH_done (by kernel_rfl) ?_ _
 go_wp2
 go_ret
 exact ⟨by rw [H0.out]; rfl, HX5.out.bel⟩
theorem frline_any (k l : Int) (v : ByteArray) (hs : v.size ≤ 1000000) (w : World) : Calls Tryz.prog 105 #[fieldV k l v] w fun e w' => e = .returned (.string (lineF k l v)) ∧ Below w.heap.size w w' := by
 cases hm : mayF k l v with
 | false =>
  have HX0 := Zh ((Bxs.start w).new 92 #[.int .i64 k, .int .i64 l, .string v]); have HC := Zh (fun w => frmay_any k l v hs w); have H0 := Zh (show lineF k l v = ⟨#[]⟩ by unfold lineF; rw [hm]; rfl); rw [hm] at HC; clear hm hs
  go_enter Tryz.func105, Tryz.ntmps105
  go_wp2_with (go_at_call 91; (with_reducible refine (HC.out _).mono ?_); rintro e w3 ⟨rfl, hb⟩; have HX3 := Zh (HX0.out.step hb); clear hb)
  go_ret
  exact ⟨by rw [H0.out]; rfl, HX3.out.bel⟩
 | true =>
  obtain ⟨h1, h2, h3, h4⟩ := may_kinds hm; have hlab : labelledB k l = true := by
   unfold mayF at hm
   simp only [Bool.and_eq_true] at hm
   exact hm.1.1.2
  rcases (show k = 1 ∨ k = 2 ∨ k = 3 ∨ k = 4 ∨ k = 5 ∨ k = 6 by omega) with rfl | rfl | rfl | rfl | rfl | rfl <;> rcases (show l = 0 ∨ l = 1 ∨ l = 2 ∨ l = 3 by omega) with rfl | rfl | rfl | rfl
  ·
   exact rline_10 v hs w hm
  ·
   exact absurd hlab (by decide)
  ·
   exact absurd hlab (by decide)
  ·
   exact absurd hlab (by decide)
  ·
   exact rline_20 v hs w hm
  ·
   exact absurd hlab (by decide)
  ·
   exact absurd hlab (by decide)
  ·
   exact absurd hlab (by decide)
  ·
   exact rline_30 v hs w hm
  ·
   exact rline_31 v hs w hm
  ·
   exact rline_32 v hs w hm
  ·
   exact rline_33 v hs w hm
  ·
   exact rline_40 v hs w hm
  ·
   exact rline_41 v hs w hm
  ·
   exact rline_42 v hs w hm
  ·
   exact absurd hlab (by decide)
  ·
   exact rline_50 v hs w hm
  ·
   exact absurd hlab (by decide)
  ·
   exact absurd hlab (by decide)
  ·
   exact absurd hlab (by decide)
  ·
   exact rline_60 v hs w hm
  ·
   exact absurd hlab (by decide)
  ·
   exact absurd hlab (by decide)
  ·
   exact absurd hlab (by decide)
end Go.Proofs.YtphijnkiiokieaaGreatDoor
