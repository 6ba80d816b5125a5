/- first: the example of the chapter. -/
import Derived.Test.YtdojdebelmfnhaaQuo2
import Derived.Test.YtdojdebelmfnhaaQuo3
namespace Go.Proofs.Ytdojdebelmfnhaa
open Go.RowKit
set_option linter.unusedVariables false
set_option maxHeartbeats 400000 in
theorem first_any (w : World) : Calls Try.prog 8 #[] w fun x w' => x = .returned (.bool true) ∧ Below w.heap.size w w' := by
  have HF := Lib.hid (fits0 (a := 1) (b := 1) (c := 10) (d := 1) (by decide))
  go_enter Try.func8, Try.ntmps8
  go_wp2_with fail
  refine (new_yes 1 1 10 1 _ (by decide)).mono ?_; rintro x w1 ⟨g, hg, rfl, hB, hb⟩
  have HB := Lib.hid hB
  clear hB
  go_wp2_with fail
  refine (move_yes g _ _ _ _ _ _ 7 _ HB.out HF.out (by omega) (by omega)).mono ?_; rintro x w2 ⟨rfl, hB2, hg2⟩
  have HB2 := Lib.hid hB2
  have HF2 := Lib.hid (fits_move HF.out (n := 7) (by omega))
  clear hB2
  go_wp2_with fail
  refine (move_no g _ _ _ _ _ _ 4 _ HB2.out HF2.out (by omega) (by decide)).mono ?_; rintro x w3 ⟨rfl, hB3, hg3⟩
  have HB3 := Lib.hid hB3
  clear hB3
  go_wp2_with fail
  refine (bytes_any g _ _ _ _ _ _ _ HB3.out).mono ?_; rintro x w4 ⟨rfl, rfl⟩
  rw [show qMove 0 7 = 7 by decide]
  go_wp2_with fail
  refine (room_any g _ _ _ _ _ _ _ HB3.out HF2.out).mono ?_; rintro x w4 ⟨rfl, k, rfl⟩
  rw [show (10 : Int) - qMove 0 7 = 3 by decide]
  go_wp2
  go_ret
  exact ⟨rfl, below_drewN (bel (bel hb hg2 hg) hg3 hg) _⟩

end Go.Proofs.Ytdojdebelmfnhaa
