/- Maps over trees (values: Int): under, inside a fence. -/
import Derived.Test.YtlfjhbfhnlclpaaOnk
import Derived.RangeFuncNested
import Derived.RangeFuncBound
import Derived.RangeFuncCalls
import Derived.RangeFuncLeaves
import Derived.Shelf.Abstract
import Derived.Shelf.RegionOpen
import Derived.Stop.RegionWithIn
import Derived.OwnWalkIn
import Derived.TacticsInMore
import Derived.LoopNIn
import Derived.LoopIn
namespace Go.Proofs.Ytlfjhbfhnlclpaa.ON
open Go.RowKit
open Go.Lib
set_option linter.unusedVariables false
set_option linter.unusedSimpArgs false
set_option maxRecDepth 100000
open Go.Shelf
attribute [local go_sem] Oper.semAt_some
theorem room_of_none {F : Fence} (hd : F.depth = none) (k : Nat) : F.room k := fun d h => by rw [hd] at h; cases h
theorem RoundIn_anyDepth {F : Fence} (hd : F.depth = none) {m m' : Nat} {P : Program} {l : Nat} {f : FuncId} {tmps : Array Value} {assign body : Code} {w : World} {R : Ending → World → Prop}
    (h : RoundIn F m P l f tmps assign body w R) : RoundIn F m' P l f tmps assign body w R := ⟨h.1, fun c cs _ => h.2 c cs (room_of_none hd _)⟩
theorem YieldAt_anyDepth {F : Fence} (hd : F.depth = none) {m : Nat} (m' : Nat) {P : Program} {l : Nat} {args : Array Value} {W : World} {R : Ending → World → Prop} (h : YieldAt F m P l args W R) : YieldAt F m' P l args W R := by
  obtain ⟨fn, tmps, assign, body, hy, hR⟩ := h
  exact ⟨fn, tmps, assign, body, hy, RoundIn_anyDepth hd hR⟩
theorem ite_no {x : Bool} {A B : Prop} (h : x = false) (hb : B) : if x = true then A else B := by
  subst h; rw [if_neg Bool.false_ne_true]; exact hb
abbrev It := ByteArray × Int
def enI (x : It) : Array Value := #[.string x.1, .int .i64 x.2]
theorem hasPre_lib (a b : ByteArray) (w : World) (ha : a.size ≤ 1000000) (hb : b.size ≤ 1000000) : Calls Try.prog 60 #[.string a, .string b] w fun e w' => e = .returned (.bool (preB b a)) ∧ w' = w := by
  have HE := Lib.hid (show preB b a = (decide (b.size ≤ a.size) && ((a.extract 0 b.size).toList == b.toList)) from rfl)
  by_cases h : b.size ≤ a.size
  · have hI : (a.size : Int) ≥ (b.size : Int) := by omega
    have hE := HE.out
    rw [decide_eq_true h] at hE
    have HE2 := Lib.hid hE
    clear hE h
    go_enter Try.func60, Try.ntmps60
    go_wp2
    go_ret
    rw [HE2.out]
    exact ⟨rfl, rfl⟩
  · have hI : ¬ (a.size : Int) ≥ (b.size : Int) := by omega
    have hE := HE.out
    rw [decide_eq_false h] at hE
    have HE2 := Lib.hid hE
    clear hE h
    go_enter Try.func60, Try.ntmps60
    go_wp2
    go_ret
    rw [HE2.out]
    exact ⟨rfl, rfl⟩
theorem hasPre_any (a b : ByteArray) (w : World) (ha : a.size ≤ 1000000) (hb : b.size ≤ 1000000) : Calls Try.prog 46 #[.string a, .string b] w fun e w' => e = .returned (.bool (preB b a)) ∧ w' = w := by
  have H := Lib.hid (hasPre_lib a b w ha hb)
  go_enter Try.func46, Try.ntmps46
  go_wp2_with fail
  refine H.out.mono ?_
  rintro _ wz ⟨rfl, hw0⟩
  replace hw0 := hw0.symm
  subst hw0
  go_wp2
  go_ret
  exact ⟨rfl, rfl⟩
end Go.Proofs.Ytlfjhbfhnlclpaa.ON
