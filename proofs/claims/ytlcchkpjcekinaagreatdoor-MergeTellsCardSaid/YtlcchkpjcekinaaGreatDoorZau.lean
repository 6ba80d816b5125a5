/- A region that draws its order: behind a call more may be held than before it. -/
import Derived.Test.YtlcchkpjcekinaaGreatDoorZat
import Derived.Test.YtlcchkpjcekinaaGreatDoorZah
import Derived.Test.YtlcchkpjcekinaaGreatDoorZai
import Derived.Deep.RegionHeld3
import Derived.Deep.DrawnRows
/- Lines of a contact: the document's own May. -/
namespace Go.Proofs.YtlcchkpjcekinaaGreatDoor
open Go.RowKit
open Go.Lib hiding intOf
set_option linter.unusedVariables false
set_option maxRecDepth 20000
attribute [local go_sem ↓] Go.wp_at_zero Go.wp_at_succ
set_option maxHeartbeats 4000000 in
theorem frmay_any (k l : Int) (v : ByteArray) (hs : v.size ≤ 1000000) (w : World) : Calls Tryz.prog 42 #[fieldV k l v] w fun e w' => e = .returned (.bool (mayF k l v)) ∧ Below w.heap.size w w' := by
  have hb0 : Below w.heap.size w (w.alloc (.cells #[.int .i64 k, .int .i64 l, .string v] 37)) := (Below.refl _ _).alloc (Nat.le_refl _) _
  have HB0 := Lib.hid hb0
  have HX := Lib.hid (Blk.new w 37 #[.int .i64 k, .int .i64 l, .string v])
  have HC := Lib.hid (frcanon_any k l v hs (w.alloc (.cells #[.int .i64 k, .int .i64 l, .string v] 37)))
  obtain ⟨r, hr⟩ : ∃ r, mayF k l v = r := ⟨_, rfl⟩
  rcases canonV_cases k l v with ⟨e, he, h1, h2⟩ | ⟨t, h1, h2⟩
  · rw [hr] at h2 ⊢
    rw [h1] at HC
    have d : (e == 0) = false := by simpa using he
    subst h2
    clear hb0 h1 hr he
    go_enter Tryz.func42, Tryz.ntmps42
    go_wp2_with (go_at_call 43; (with_reducible refine (HC.out).mono ?_); rintro e w3 ⟨rfl, hb⟩; have HX3 := Lib.hid (HX.out.below hb HX.out.lt); have HB3 := Lib.hid (HB0.out.trans (hb.mono HB0.out.size)); clear hb)
    go_ret
    exact ⟨rfl, HB3.out.alloc HB3.out.size _⟩
  · rw [hr] at h2 ⊢
    rw [h1] at HC
    cases hq : (t.toList == v.toList)
    all_goals (
      rw [hq] at h2
      subst h2
      clear hb0 h1 hr
      go_enter Tryz.func42, Tryz.ntmps42
      go_wp2_with (go_at_call 43; (with_reducible refine (HC.out).mono ?_); rintro e w3 ⟨rfl, hb⟩; have HX3 := Lib.hid (HX.out.below hb HX.out.lt); have a0 := ((HX3.out.alloc (.cells #[.int .i64 k, .int .i64 l, .string t] 37)).cell 0); have a1 := ((HX3.out.alloc (.cells #[.int .i64 k, .int .i64 l, .string t] 37)).cell 1); have a2 := ((HX3.out.alloc (.cells #[.int .i64 k, .int .i64 l, .string t] 37)).cell 2); have HB3 := Lib.hid (HB0.out.trans (hb.mono HB0.out.size)); clear hb)
      go_ret
      exact ⟨rfl, HB3.out.alloc HB3.out.size _⟩)
end Go.Proofs.YtlcchkpjcekinaaGreatDoor
/- Boxes that a call holds: the parameters' ones. -/
namespace Go.Proofs.YtlcchkpjcekinaaGreatDoor
open Go.RowKit
variable {w0 wr w' : World} {l : List (Nat × TypeId × Array Value)}
theorem Bxs.put (h : Bxs w0 wr l) (t : TypeId) (cs : Array Value) (g : Nat) (e : wr.heap.size = g) : Bxs w0 (wr.alloc (.cells cs t)) (l ++ [(g, t, cs)]) := e ▸ h.new t cs
theorem Bxs.two (w : World) (t u : TypeId) (a b : Array Value) : Bxs w ((w.alloc (.cells a t)).alloc (.cells b u)) [(w.heap.size, t, a), (w.heap.size + 1, u, b)] := ((Bxs.start w).new t a).put u b _ (by simp)
theorem Bxs.three (w : World) (t u v : TypeId) (a b c : Array Value) : Bxs w (((w.alloc (.cells a t)).alloc (.cells b u)).alloc (.cells c v)) [(w.heap.size, t, a), (w.heap.size + 1, u, b), (w.heap.size + 1 + 1, v, c)] := (Bxs.two w t u a b).put v c _ (by simp)
end Go.Proofs.YtlcchkpjcekinaaGreatDoor
namespace Go.Proofs.YtlcchkpjcekinaaGreatDoor
open Go
theorem wpAnyH_more {P : Program} {md : Region.Mode} {ops : Array Oper} {Q : Exit → Act → World → Prop} {S T : World → Prop} (hST : ∀ w, T w → S w) :
    ∀ (fuel : Nat) (listed : Array Bool) (a : Act) (w : World), wpAnyH P md ops Q T fuel listed a w → wpAnyH P md ops Q S fuel listed a w
  | 0, _, _, _, h => h
  | fuel + 1, _, _, _, h => ⟨h.1, fun i hi => wpOp_mono (fun a' w' h' => ⟨hST _ h'.1, wpAnyH_more hST fuel _ a' w' h'.2⟩) (h.2 i hi)⟩
end Go.Proofs.YtlcchkpjcekinaaGreatDoor
