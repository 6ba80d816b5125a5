/- Texts of one proof, joined. -/
import Derived.Test.YtphijnkiiokieaaGreatDoorZbb
set_option linter.unusedVariables false
set_option linter.unusedSimpArgs false
set_option maxRecDepth 100000
set_option maxHeartbeats 80000000
namespace Go.Proofs.YtphijnkiiokieaaGreatDoor
open Go.RowKit
open Go.Lib hiding intOf
attribute [local go_sem ↓] Go.wp_at_zero Go.wp_at_succ
theorem frmay_any (k l : Int) (v : ByteArray) (hs : v.size ≤ 1000000) (w : World) : Calls Tryz.prog 91 #[fieldV k l v] w fun e w' => e = .returned (.bool (mayF k l v)) ∧ Below w.heap.size w w' := by
 have hb0 : Below w.heap.size w (w.alloc (.cells #[.int .i64 k, .int .i64 l, .string v] 92)) := (Below.refl _ _).alloc (Nat.le_refl _) _; have HB0 := Zh hb0; have HX := Zh (Blk.new w 92 #[.int .i64 k, .int .i64 l, .string v]); have HC := Zh (frcanon_any k l v hs (w.alloc (.cells #[.int .i64 k, .int .i64 l, .string v] 92))); obtain ⟨r, hr⟩ : ∃ r, mayF k l v = r := ⟨_, rfl⟩
 rcases canonV_cases k l v with ⟨e, he, h1, h2⟩ | ⟨t, h1, h2⟩
 ·
  rw [hr] at h2 ⊢; rw [h1] at HC; have d : (e == 0) = false := by simpa using he
  subst h2; clear hb0 h1 hr he
  go_enter Tryz.func91, Tryz.ntmps91
  go_wp2_with (go_at_call 103; (with_reducible refine (HC.out).mono ?_); rintro e w3 ⟨rfl, hb⟩; have HX3 := Zh (HX.out.below hb HX.out.lt); have HB3 := Zh (HB0.out.trans (hb.mono HB0.out.size)); clear hb)
  go_ret
  exact ⟨rfl, HB3.out.alloc HB3.out.size _⟩
 ·
  rw [hr] at h2 ⊢; rw [h1] at HC
  cases hq : (t.toList == v.toList)
  all_goals (
   rw [hq] at h2; subst h2; clear hb0 h1 hr
   go_enter Tryz.func91, Tryz.ntmps91
   go_wp2_with (go_at_call 103; (with_reducible refine (HC.out).mono ?_); rintro e w3 ⟨rfl, hb⟩; have HX3 := Zh (HX.out.below hb HX.out.lt); have a0 := ((HX3.out.alloc (.cells #[.int .i64 k, .int .i64 l, .string t] 92)).cell 0); have a1 := ((HX3.out.alloc (.cells #[.int .i64 k, .int .i64 l, .string t] 92)).cell 1); have a2 := ((HX3.out.alloc (.cells #[.int .i64 k, .int .i64 l, .string t] 92)).cell 2); have HB3 := Zh (HB0.out.trans (hb.mono HB0.out.size)); clear hb)
   go_ret
   exact ⟨rfl, HB3.out.alloc HB3.out.size _⟩)
end Go.Proofs.YtphijnkiiokieaaGreatDoor
namespace Go.Proofs.YtphijnkiiokieaaGreatDoor
open Go
theorem wpAnyH_more {P : Program} {md : Region.Mode} {ops : Array Oper} {Q : Exit → Act → World → Prop} {S T : World → Prop} (hST : ∀ w, T w → S w) :
  ∀ (fuel : Nat) (listed : Array Bool) (a : Act) (w : World), wpAnyH P md ops Q T fuel listed a w → wpAnyH P md ops Q S fuel listed a w
 | 0, _, _, _, h => h
 | fuel + 1, _, _, _, h => ⟨h.1, fun i hi => wpOp_mono (fun a' w' h' => ⟨hST _ h'.1, wpAnyH_more hST fuel _ a' w' h'.2⟩) (h.2 i hi)⟩
end Go.Proofs.YtphijnkiiokieaaGreatDoor
