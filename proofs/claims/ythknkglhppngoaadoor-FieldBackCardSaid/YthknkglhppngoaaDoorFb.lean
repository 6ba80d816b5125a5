/- FieldBack: its walk. -/
import Derived.Test.YthknkglhppngoaaDoorFe
namespace Go.Proofs.YthknkglhppngoaaDoor
open Go.RowKit
open Go.Lib hiding intOf
set_option linter.unusedVariables false
set_option maxRecDepth 100000
attribute [local go_sem ↓] Go.wp_at_zero Go.wp_at_succ
set_option maxHeartbeats 4000000 in
theorem back_big (w : World) (hE : Env w) (k l : Int) (v s : ByteArray) (h : 300 < v.size ∨ 300 < s.size) : Calls Tryd.prog 3 #[.agg #[.int .i64 k, .int .i64 l, .string v], .string s] w fun e w' => e = .returned (.bool true) ∧ Below w.heap.size w w' := by
  have HF := Lib.hid first_any
  have HE := Lib.hid hE
  have HX0 := Lib.hid ((Bxs.start w).new 23 #[.int .i64 k, .int .i64 l, .string v])
  rcases (show (v.size : Int) > 300 ∨ ((v.size : Int) ≤ 300 ∧ (s.size : Int) > 300) by omega) with h1 | ⟨h1, h2⟩
  all_goals (
    clear h hE
    go_enter Tryd.func3, Tryd.ntmps3
    go_wp2_with (go_at_call 5; (with_reducible refine (HF.out _ (HE.out.on HX0.out.bel)).mono ?_); rintro e w1 ⟨rfl, hb⟩; have HX1 := Lib.hid (HX0.out.step hb); have a1_0_0 := (HX1.out.get 0 rfl).cell 0; have a1_0_1 := (HX1.out.get 0 rfl).cell 1; have a1_0_2 := (HX1.out.get 0 rfl).cell 2; clear hb)
    go_wp2_with (go_at_call 5; (with_reducible refine (HF.out _ (HE.out.on HX1.out.bel)).mono ?_); rintro e w2 ⟨rfl, hb⟩; have HX2 := Lib.hid (HX1.out.step hb); have a2_0_0 := (HX2.out.get 0 rfl).cell 0; have a2_0_1 := (HX2.out.get 0 rfl).cell 1; have a2_0_2 := (HX2.out.get 0 rfl).cell 2; clear hb)
    go_ret
    exact ⟨rfl, HX2.out.bel⟩)
set_option maxHeartbeats 8000000 in
theorem back_00 (w : World) (hE : Env w) (k l : Int) (v s : ByteArray) (hv : (v.size : Int) ≤ 300) (hs : (s.size : Int) ≤ 300) (hp : parseF s = ⟨0, 0, ⟨#[]⟩, 1⟩) (e0 : Int) (he : (e0 != 0) = true) (hc : canonV k l v = .tuple #[.agg #[.int .i64 0, .int .i64 0, .string ⟨#[]⟩], .int .i64 e0]) (hm : mayF k l v = false) (hl : lineF k l v = ⟨#[]⟩) :
    Calls Tryd.prog 3 #[.agg #[.int .i64 k, .int .i64 l, .string v], .string s] w fun e w' => e = .returned (.bool true) ∧ Below w.heap.size w w' := by
  have HF := Lib.hid (first_any)
  have HE := Lib.hid (hE)
  have HX0 := Lib.hid ((Bxs.start w).new 23 #[.int .i64 k, .int .i64 l, .string v])
  have HP := Lib.hid (parse_on s (by omega) _ _ _ _ hp)
  have HC := Lib.hid (canon_on k l v (by omega) _ _ _ _ hc)
  have HM := Lib.hid (may_on k l v (by omega) _ hm)
  have HL := Lib.hid (line_on k l v (by omega) _ hl)
  clear hE hp hc hm hl
  go_enter Tryd.func3, Tryd.ntmps3
  go_wp2_with (go_at_call 5; (with_reducible refine (HF.out _ (HE.out.on HX0.out.bel)).mono ?_); rintro e w1 ⟨rfl, hb⟩; have HX1 := Lib.hid (HX0.out.step hb); have a1_0_0 := (HX1.out.get 0 rfl).cell 0; have a1_0_1 := (HX1.out.get 0 rfl).cell 1; have a1_0_2 := (HX1.out.get 0 rfl).cell 2; clear hb)
  go_wp2_with (go_at_call 6; (with_reducible refine (HP.out _ (HE.out.on HX1.out.bel)).mono ?_); rintro e w2 ⟨rfl, hb⟩; have HX2 := Lib.hid ((HX1.out.step hb).new 23 #[.int .i64 0, .int .i64 0, .string ⟨#[]⟩]); have a2_0_0 := (HX2.out.get 0 rfl).cell 0; have a2_0_1 := (HX2.out.get 0 rfl).cell 1; have a2_0_2 := (HX2.out.get 0 rfl).cell 2; clear hb)
  go_wp2_with (go_at_call 9; (with_reducible refine (HC.out _ (HE.out.on HX2.out.bel)).mono ?_); rintro e w3 ⟨rfl, hb⟩; have HX3 := Lib.hid ((HX2.out.step hb).new 23 #[.int .i64 0, .int .i64 0, .string ⟨#[]⟩]); have a3_0_0 := (HX3.out.get 0 rfl).cell 0; have a3_0_1 := (HX3.out.get 0 rfl).cell 1; have a3_0_2 := (HX3.out.get 0 rfl).cell 2; clear hb)
  go_wp2_with (go_at_call 8; (with_reducible refine (HM.out _ (HE.out.on HX3.out.bel)).mono ?_); rintro e w4 ⟨rfl, hb⟩; have HX4 := Lib.hid (HX3.out.step hb); have a4_0_0 := (HX4.out.get 0 rfl).cell 0; have a4_0_1 := (HX4.out.get 0 rfl).cell 1; have a4_0_2 := (HX4.out.get 0 rfl).cell 2; clear hb)
  go_wp2_with (go_at_call 7; (with_reducible refine (HL.out _ (HE.out.on HX4.out.bel)).mono ?_); rintro e w5 ⟨rfl, hb⟩; have HX5 := Lib.hid (HX4.out.step hb); have a5_0_0 := (HX5.out.get 0 rfl).cell 0; have a5_0_1 := (HX5.out.get 0 rfl).cell 1; have a5_0_2 := (HX5.out.get 0 rfl).cell 2; clear hb)
  go_ret
  exact ⟨rfl, HX5.out.bel⟩
set_option maxHeartbeats 8000000 in
theorem back_01 (w : World) (hE : Env w) (k l : Int) (v s : ByteArray) (hv : (v.size : Int) ≤ 300) (hs : (s.size : Int) ≤ 300) (hp : parseF s = ⟨0, 0, ⟨#[]⟩, 1⟩) (t : ByteArray) (ht : t.size ≤ 64) (L : ByteArray) (hL : L.size ≤ 1000) (hc : canonV k l v = .tuple #[.agg #[.int .i64 k, .int .i64 l, .string t], .int .i64 0]) (hct : canonV k l t = .tuple #[.agg #[.int .i64 k, .int .i64 l, .string t], .int .i64 0]) (hmt : mayF k l t = true) (hLt : lineF k l t = L) (hpL : parseF L = ⟨k, l, t, 0⟩) :
    Calls Tryd.prog 3 #[.agg #[.int .i64 k, .int .i64 l, .string v], .string s] w fun e w' => e = .returned (.bool true) ∧ Below w.heap.size w w' := by
  have HF := Lib.hid (first_any)
  have HE := Lib.hid (hE)
  have HX0 := Lib.hid ((Bxs.start w).new 23 #[.int .i64 k, .int .i64 l, .string v])
  have HP := Lib.hid (parse_on s (by omega) _ _ _ _ hp)
  have HC := Lib.hid (canon_on k l v (by omega) _ _ _ _ hc)
  have HCT := Lib.hid (canon_on k l t (by omega) _ _ _ _ hct)
  have HMT := Lib.hid (may_on k l t (by omega) _ hmt)
  have HLT := Lib.hid (line_on k l t (by omega) _ hLt)
  have HPL := Lib.hid (parse_on L (by omega) _ _ _ _ hpL)
  have ett : (t.toList == t.toList) = true := by simp
  clear hE hp hc hct hmt hLt hpL ht hL
  go_enter Tryd.func3, Tryd.ntmps3
  go_wp2_with (go_at_call 5; (with_reducible refine (HF.out _ (HE.out.on HX0.out.bel)).mono ?_); rintro e w1 ⟨rfl, hb⟩; have HX1 := Lib.hid (HX0.out.step hb); have a1_0_0 := (HX1.out.get 0 rfl).cell 0; have a1_0_1 := (HX1.out.get 0 rfl).cell 1; have a1_0_2 := (HX1.out.get 0 rfl).cell 2; clear hb)
  go_wp2_with (go_at_call 6; (with_reducible refine (HP.out _ (HE.out.on HX1.out.bel)).mono ?_); rintro e w2 ⟨rfl, hb⟩; have HX2 := Lib.hid ((HX1.out.step hb).new 23 #[.int .i64 0, .int .i64 0, .string ⟨#[]⟩]); have a2_0_0 := (HX2.out.get 0 rfl).cell 0; have a2_0_1 := (HX2.out.get 0 rfl).cell 1; have a2_0_2 := (HX2.out.get 0 rfl).cell 2; clear hb)
  go_wp2_with (go_at_call 9; (with_reducible refine (HC.out _ (HE.out.on HX2.out.bel)).mono ?_); rintro e w3 ⟨rfl, hb⟩; have HX3 := Lib.hid ((HX2.out.step hb).new 23 #[.int .i64 k, .int .i64 l, .string t]); have a3_0_0 := (HX3.out.get 0 rfl).cell 0; have a3_0_1 := (HX3.out.get 0 rfl).cell 1; have a3_0_2 := (HX3.out.get 0 rfl).cell 2; clear hb)
  go_wp2_with (go_at_call 9; (with_reducible refine (HCT.out _ (HE.out.on HX3.out.bel)).mono ?_); rintro e w4 ⟨rfl, hb⟩; have HX4 := Lib.hid ((HX3.out.step hb).new 23 #[.int .i64 k, .int .i64 l, .string t]); have a4_0_0 := (HX4.out.get 0 rfl).cell 0; have a4_0_1 := (HX4.out.get 0 rfl).cell 1; have a4_0_2 := (HX4.out.get 0 rfl).cell 2; have a4_2_0 := (HX4.out.get 2 rfl).cell 0; have a4_2_1 := (HX4.out.get 2 rfl).cell 1; have a4_2_2 := (HX4.out.get 2 rfl).cell 2; clear hb)
  go_wp2_with (go_at_call 7; (with_reducible refine (HLT.out _ (HE.out.on HX4.out.bel)).mono ?_); rintro e w5 ⟨rfl, hb⟩; have HX5 := Lib.hid (HX4.out.step hb); have a5_0_0 := (HX5.out.get 0 rfl).cell 0; have a5_0_1 := (HX5.out.get 0 rfl).cell 1; have a5_0_2 := (HX5.out.get 0 rfl).cell 2; have a5_2_0 := (HX5.out.get 2 rfl).cell 0; have a5_2_1 := (HX5.out.get 2 rfl).cell 1; have a5_2_2 := (HX5.out.get 2 rfl).cell 2; have a5_3_0 := (HX5.out.get 3 rfl).cell 0; have a5_3_1 := (HX5.out.get 3 rfl).cell 1; have a5_3_2 := (HX5.out.get 3 rfl).cell 2; clear hb)
  go_wp2_with (go_at_call 6; (with_reducible refine (HPL.out _ (HE.out.on HX5.out.bel)).mono ?_); rintro e w6 ⟨rfl, hb⟩; have HX6 := Lib.hid ((HX5.out.step hb).new 23 #[.int .i64 k, .int .i64 l, .string t]); have a6_0_0 := (HX6.out.get 0 rfl).cell 0; have a6_0_1 := (HX6.out.get 0 rfl).cell 1; have a6_0_2 := (HX6.out.get 0 rfl).cell 2; have a6_2_0 := (HX6.out.get 2 rfl).cell 0; have a6_2_1 := (HX6.out.get 2 rfl).cell 1; have a6_2_2 := (HX6.out.get 2 rfl).cell 2; have a6_3_0 := (HX6.out.get 3 rfl).cell 0; have a6_3_1 := (HX6.out.get 3 rfl).cell 1; have a6_3_2 := (HX6.out.get 3 rfl).cell 2; clear hb)
  go_wp2_with (go_at_call 8; (with_reducible refine (HMT.out _ (HE.out.on HX6.out.bel)).mono ?_); rintro e w7 ⟨rfl, hb⟩; have HX7 := Lib.hid (HX6.out.step hb); have a7_0_0 := (HX7.out.get 0 rfl).cell 0; have a7_0_1 := (HX7.out.get 0 rfl).cell 1; have a7_0_2 := (HX7.out.get 0 rfl).cell 2; have a7_2_0 := (HX7.out.get 2 rfl).cell 0; have a7_2_1 := (HX7.out.get 2 rfl).cell 1; have a7_2_2 := (HX7.out.get 2 rfl).cell 2; clear hb)
  go_ret
  exact ⟨rfl, HX7.out.bel⟩
set_option maxHeartbeats 8000000 in
theorem back_10 (w : World) (hE : Env w) (k l : Int) (v s : ByteArray) (hv : (v.size : Int) ≤ 300) (hs : (s.size : Int) ≤ 300) (k2 l2 : Int) (v2 : ByteArray) (hv2 : v2.size ≤ 300) (hp : parseF s = ⟨k2, l2, v2, 0⟩) (hl2 : lineF k2 l2 v2 = s) (hm2 : mayF k2 l2 v2 = true) (e0 : Int) (he : (e0 != 0) = true) (hc : canonV k l v = .tuple #[.agg #[.int .i64 0, .int .i64 0, .string ⟨#[]⟩], .int .i64 e0]) (hm : mayF k l v = false) (hl : lineF k l v = ⟨#[]⟩) :
    Calls Tryd.prog 3 #[.agg #[.int .i64 k, .int .i64 l, .string v], .string s] w fun e w' => e = .returned (.bool true) ∧ Below w.heap.size w w' := by
  have HF := Lib.hid (first_any)
  have HE := Lib.hid (hE)
  have HX0 := Lib.hid ((Bxs.start w).new 23 #[.int .i64 k, .int .i64 l, .string v])
  have HP := Lib.hid (parse_on s (by omega) _ _ _ _ hp)
  have HC := Lib.hid (canon_on k l v (by omega) _ _ _ _ hc)
  have HL2 := Lib.hid (line_on k2 l2 v2 (by omega) _ hl2)
  have HM2 := Lib.hid (may_on k2 l2 v2 (by omega) _ hm2)
  have ess : (s.toList != s.toList) = false := by simp
  have HM := Lib.hid (may_on k l v (by omega) _ hm)
  have HL := Lib.hid (line_on k l v (by omega) _ hl)
  clear hE hp hc hl2 hm2 hv2 hm hl
  go_enter Tryd.func3, Tryd.ntmps3
  go_wp2_with (go_at_call 5; (with_reducible refine (HF.out _ (HE.out.on HX0.out.bel)).mono ?_); rintro e w1 ⟨rfl, hb⟩; have HX1 := Lib.hid (HX0.out.step hb); have a1_0_0 := (HX1.out.get 0 rfl).cell 0; have a1_0_1 := (HX1.out.get 0 rfl).cell 1; have a1_0_2 := (HX1.out.get 0 rfl).cell 2; clear hb)
  go_wp2_with (go_at_call 6; (with_reducible refine (HP.out _ (HE.out.on HX1.out.bel)).mono ?_); rintro e w2 ⟨rfl, hb⟩; have HX2 := Lib.hid ((HX1.out.step hb).new 23 #[.int .i64 k2, .int .i64 l2, .string v2]); have a2_0_0 := (HX2.out.get 0 rfl).cell 0; have a2_0_1 := (HX2.out.get 0 rfl).cell 1; have a2_0_2 := (HX2.out.get 0 rfl).cell 2; clear hb)
  go_wp2_with (go_at_call 7; (with_reducible refine (HL2.out _ (HE.out.on HX2.out.bel)).mono ?_); rintro e w3 ⟨rfl, hb⟩; have HX3 := Lib.hid (HX2.out.step hb); have a3_0_0 := (HX3.out.get 0 rfl).cell 0; have a3_0_1 := (HX3.out.get 0 rfl).cell 1; have a3_0_2 := (HX3.out.get 0 rfl).cell 2; have a3_1_0 := (HX3.out.get 1 rfl).cell 0; have a3_1_1 := (HX3.out.get 1 rfl).cell 1; have a3_1_2 := (HX3.out.get 1 rfl).cell 2; clear hb)
  go_wp2_with (go_at_call 8; (with_reducible refine (HM2.out _ (HE.out.on HX3.out.bel)).mono ?_); rintro e w4 ⟨rfl, hb⟩; have HX4 := Lib.hid (HX3.out.step hb); have a4_0_0 := (HX4.out.get 0 rfl).cell 0; have a4_0_1 := (HX4.out.get 0 rfl).cell 1; have a4_0_2 := (HX4.out.get 0 rfl).cell 2; have a4_1_0 := (HX4.out.get 1 rfl).cell 0; have a4_1_1 := (HX4.out.get 1 rfl).cell 1; have a4_1_2 := (HX4.out.get 1 rfl).cell 2; clear hb)
  go_wp2_with (go_at_call 9; (with_reducible refine (HC.out _ (HE.out.on HX4.out.bel)).mono ?_); rintro e w5 ⟨rfl, hb⟩; have HX5 := Lib.hid ((HX4.out.step hb).new 23 #[.int .i64 0, .int .i64 0, .string ⟨#[]⟩]); have a5_0_0 := (HX5.out.get 0 rfl).cell 0; have a5_0_1 := (HX5.out.get 0 rfl).cell 1; have a5_0_2 := (HX5.out.get 0 rfl).cell 2; clear hb)
  go_wp2_with (go_at_call 8; (with_reducible refine (HM.out _ (HE.out.on HX5.out.bel)).mono ?_); rintro e w6 ⟨rfl, hb⟩; have HX6 := Lib.hid (HX5.out.step hb); have a6_0_0 := (HX6.out.get 0 rfl).cell 0; have a6_0_1 := (HX6.out.get 0 rfl).cell 1; have a6_0_2 := (HX6.out.get 0 rfl).cell 2; clear hb)
  go_wp2_with (go_at_call 7; (with_reducible refine (HL.out _ (HE.out.on HX6.out.bel)).mono ?_); rintro e w7 ⟨rfl, hb⟩; have HX7 := Lib.hid (HX6.out.step hb); have a7_0_0 := (HX7.out.get 0 rfl).cell 0; have a7_0_1 := (HX7.out.get 0 rfl).cell 1; have a7_0_2 := (HX7.out.get 0 rfl).cell 2; clear hb)
  go_ret
  exact ⟨rfl, HX7.out.bel⟩
set_option maxHeartbeats 8000000 in
theorem back_11 (w : World) (hE : Env w) (k l : Int) (v s : ByteArray) (hv : (v.size : Int) ≤ 300) (hs : (s.size : Int) ≤ 300) (k2 l2 : Int) (v2 : ByteArray) (hv2 : v2.size ≤ 300) (hp : parseF s = ⟨k2, l2, v2, 0⟩) (hl2 : lineF k2 l2 v2 = s) (hm2 : mayF k2 l2 v2 = true) (t : ByteArray) (ht : t.size ≤ 64) (L : ByteArray) (hL : L.size ≤ 1000) (hc : canonV k l v = .tuple #[.agg #[.int .i64 k, .int .i64 l, .string t], .int .i64 0]) (hct : canonV k l t = .tuple #[.agg #[.int .i64 k, .int .i64 l, .string t], .int .i64 0]) (hmt : mayF k l t = true) (hLt : lineF k l t = L) (hpL : parseF L = ⟨k, l, t, 0⟩) :
    Calls Tryd.prog 3 #[.agg #[.int .i64 k, .int .i64 l, .string v], .string s] w fun e w' => e = .returned (.bool true) ∧ Below w.heap.size w w' := by
  have HF := Lib.hid (first_any)
  have HE := Lib.hid (hE)
  have HX0 := Lib.hid ((Bxs.start w).new 23 #[.int .i64 k, .int .i64 l, .string v])
  have HP := Lib.hid (parse_on s (by omega) _ _ _ _ hp)
  have HC := Lib.hid (canon_on k l v (by omega) _ _ _ _ hc)
  have HL2 := Lib.hid (line_on k2 l2 v2 (by omega) _ hl2)
  have HM2 := Lib.hid (may_on k2 l2 v2 (by omega) _ hm2)
  have ess : (s.toList != s.toList) = false := by simp
  have HCT := Lib.hid (canon_on k l t (by omega) _ _ _ _ hct)
  have HMT := Lib.hid (may_on k l t (by omega) _ hmt)
  have HLT := Lib.hid (line_on k l t (by omega) _ hLt)
  have HPL := Lib.hid (parse_on L (by omega) _ _ _ _ hpL)
  have ett : (t.toList == t.toList) = true := by simp
  clear hE hp hc hl2 hm2 hv2 hct hmt hLt hpL ht hL
  go_enter Tryd.func3, Tryd.ntmps3
  go_wp2_with (go_at_call 5; (with_reducible refine (HF.out _ (HE.out.on HX0.out.bel)).mono ?_); rintro e w1 ⟨rfl, hb⟩; have HX1 := Lib.hid (HX0.out.step hb); have a1_0_0 := (HX1.out.get 0 rfl).cell 0; have a1_0_1 := (HX1.out.get 0 rfl).cell 1; have a1_0_2 := (HX1.out.get 0 rfl).cell 2; clear hb)
  go_wp2_with (go_at_call 6; (with_reducible refine (HP.out _ (HE.out.on HX1.out.bel)).mono ?_); rintro e w2 ⟨rfl, hb⟩; have HX2 := Lib.hid ((HX1.out.step hb).new 23 #[.int .i64 k2, .int .i64 l2, .string v2]); have a2_0_0 := (HX2.out.get 0 rfl).cell 0; have a2_0_1 := (HX2.out.get 0 rfl).cell 1; have a2_0_2 := (HX2.out.get 0 rfl).cell 2; clear hb)
  go_wp2_with (go_at_call 7; (with_reducible refine (HL2.out _ (HE.out.on HX2.out.bel)).mono ?_); rintro e w3 ⟨rfl, hb⟩; have HX3 := Lib.hid (HX2.out.step hb); have a3_0_0 := (HX3.out.get 0 rfl).cell 0; have a3_0_1 := (HX3.out.get 0 rfl).cell 1; have a3_0_2 := (HX3.out.get 0 rfl).cell 2; have a3_1_0 := (HX3.out.get 1 rfl).cell 0; have a3_1_1 := (HX3.out.get 1 rfl).cell 1; have a3_1_2 := (HX3.out.get 1 rfl).cell 2; clear hb)
  go_wp2_with (go_at_call 8; (with_reducible refine (HM2.out _ (HE.out.on HX3.out.bel)).mono ?_); rintro e w4 ⟨rfl, hb⟩; have HX4 := Lib.hid (HX3.out.step hb); have a4_0_0 := (HX4.out.get 0 rfl).cell 0; have a4_0_1 := (HX4.out.get 0 rfl).cell 1; have a4_0_2 := (HX4.out.get 0 rfl).cell 2; have a4_1_0 := (HX4.out.get 1 rfl).cell 0; have a4_1_1 := (HX4.out.get 1 rfl).cell 1; have a4_1_2 := (HX4.out.get 1 rfl).cell 2; clear hb)
  go_wp2_with (go_at_call 9; (with_reducible refine (HC.out _ (HE.out.on HX4.out.bel)).mono ?_); rintro e w5 ⟨rfl, hb⟩; have HX5 := Lib.hid ((HX4.out.step hb).new 23 #[.int .i64 k, .int .i64 l, .string t]); have a5_0_0 := (HX5.out.get 0 rfl).cell 0; have a5_0_1 := (HX5.out.get 0 rfl).cell 1; have a5_0_2 := (HX5.out.get 0 rfl).cell 2; clear hb)
  go_wp2_with (go_at_call 9; (with_reducible refine (HCT.out _ (HE.out.on HX5.out.bel)).mono ?_); rintro e w6 ⟨rfl, hb⟩; have HX6 := Lib.hid ((HX5.out.step hb).new 23 #[.int .i64 k, .int .i64 l, .string t]); have a6_0_0 := (HX6.out.get 0 rfl).cell 0; have a6_0_1 := (HX6.out.get 0 rfl).cell 1; have a6_0_2 := (HX6.out.get 0 rfl).cell 2; have a6_2_0 := (HX6.out.get 2 rfl).cell 0; have a6_2_1 := (HX6.out.get 2 rfl).cell 1; have a6_2_2 := (HX6.out.get 2 rfl).cell 2; clear hb)
  go_wp2_with (go_at_call 7; (with_reducible refine (HLT.out _ (HE.out.on HX6.out.bel)).mono ?_); rintro e w7 ⟨rfl, hb⟩; have HX7 := Lib.hid (HX6.out.step hb); have a7_0_0 := (HX7.out.get 0 rfl).cell 0; have a7_0_1 := (HX7.out.get 0 rfl).cell 1; have a7_0_2 := (HX7.out.get 0 rfl).cell 2; have a7_2_0 := (HX7.out.get 2 rfl).cell 0; have a7_2_1 := (HX7.out.get 2 rfl).cell 1; have a7_2_2 := (HX7.out.get 2 rfl).cell 2; have a7_3_0 := (HX7.out.get 3 rfl).cell 0; have a7_3_1 := (HX7.out.get 3 rfl).cell 1; have a7_3_2 := (HX7.out.get 3 rfl).cell 2; clear hb)
  go_wp2_with (go_at_call 6; (with_reducible refine (HPL.out _ (HE.out.on HX7.out.bel)).mono ?_); rintro e w8 ⟨rfl, hb⟩; have HX8 := Lib.hid ((HX7.out.step hb).new 23 #[.int .i64 k, .int .i64 l, .string t]); have a8_0_0 := (HX8.out.get 0 rfl).cell 0; have a8_0_1 := (HX8.out.get 0 rfl).cell 1; have a8_0_2 := (HX8.out.get 0 rfl).cell 2; have a8_2_0 := (HX8.out.get 2 rfl).cell 0; have a8_2_1 := (HX8.out.get 2 rfl).cell 1; have a8_2_2 := (HX8.out.get 2 rfl).cell 2; have a8_3_0 := (HX8.out.get 3 rfl).cell 0; have a8_3_1 := (HX8.out.get 3 rfl).cell 1; have a8_3_2 := (HX8.out.get 3 rfl).cell 2; clear hb)
  go_wp2_with (go_at_call 8; (with_reducible refine (HMT.out _ (HE.out.on HX8.out.bel)).mono ?_); rintro e w9 ⟨rfl, hb⟩; have HX9 := Lib.hid (HX8.out.step hb); have a9_0_0 := (HX9.out.get 0 rfl).cell 0; have a9_0_1 := (HX9.out.get 0 rfl).cell 1; have a9_0_2 := (HX9.out.get 0 rfl).cell 2; have a9_2_0 := (HX9.out.get 2 rfl).cell 0; have a9_2_1 := (HX9.out.get 2 rfl).cell 1; have a9_2_2 := (HX9.out.get 2 rfl).cell 2; clear hb)
  go_ret
  exact ⟨rfl, HX9.out.bel⟩
theorem line_size {k l : Int} {v : ByteArray} (h : v.size ≤ 64) : (lineF k l v).size ≤ 1000 := by
  unfold lineF
  have h1 := head_size k l
  have h2 : (⟨#[58]⟩ : ByteArray).size = 1 := rfl
  split
  · rw [ByteArray.size_append, ByteArray.size_append, h2]; omega
  · decide
theorem fieldBack_walk (w : World) (hTD : Tabs w ∧ Day.Tab w.heap.size w) (hM : Mx w) (a0 : Int) (w0 : (Lit.int .i64 a0).wf = true) (a1 : Int) (w1 : (Lit.int .i64 a1).wf = true) (a2 : ByteArray) (w2 : a2.size ≤ maxLen) (a3 : ByteArray) (w3 : a3.size ≤ maxLen) :
    Calls Tryd.prog 3 #[.agg #[.int .i64 a0, .int .i64 a1, .string a2], .string a3] w fun e w' => e = .returned (.bool true) ∧ Below w.heap.size w w' := by
  have hE : Env w := ⟨hTD.1, hM, hTD.2⟩
  by_cases hbig : 300 < a2.size ∨ 300 < a3.size
  · exact back_big w hE a0 a1 a2 a3 hbig
  · have h1 : (a2.size : Int) ≤ 300 := by omega
    have h2 : (a3.size : Int) ≤ 300 := by omega
    rcases parse_cases a3 with ⟨k, l, v, hm, hl, hp, hz⟩ | hp <;> rcases canon_cases a0 a1 a2 with ⟨e, he, hc, hf⟩ | ⟨t, hc, _, hmt, hct, ht⟩
    · exact back_10 w hE a0 a1 a2 a3 h1 h2 k l v (by omega) hp hl hm e (by simpa using he) hc hf (by unfold lineF; rw [hf]; rfl)
    · exact back_11 w hE a0 a1 a2 a3 h1 h2 k l v (by omega) hp hl hm t ht _ (line_size ht) hc hct hmt rfl (parse_line hmt)
    · exact back_00 w hE a0 a1 a2 a3 h1 h2 hp e (by simpa using he) hc hf (by unfold lineF; rw [hf]; rfl)
    · exact back_01 w hE a0 a1 a2 a3 h1 h2 hp t ht _ (line_size ht) hc hct hmt rfl (parse_line hmt)
end Go.Proofs.YthknkglhppngoaaDoor
