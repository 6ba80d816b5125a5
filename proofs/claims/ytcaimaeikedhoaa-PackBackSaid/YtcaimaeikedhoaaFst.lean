/- first: what the chapter's examples fix, as it runs. -/
import Derived.Test.YtcaimaeikedhoaaRx
namespace Go.Proofs.Ytcaimaeikedhoaa
open Go.RowKit
set_option linter.unusedVariables false
set_option maxRecDepth 20000
def sv : List UInt8 := [249, 1, 44, 2, 104, 105, 7]
def svc : Array Value := #[.int .u8 249, .int .u8 1, .int .u8 44, .int .u8 2, .int .u8 104, .int .u8 105, .int .u8 7]
theorem sv_byt (W : World) : Byt (W.alloc (.cells svc 5)) (some ⟨W.heap.size, 0, none⟩) 7 7 W.heap.size 0 sv :=
  ⟨rfl, Nat.le_refl _, by decide, fun _ => ⟨rfl, by simp⟩, fun j u hu => by
    rw [Nat.zero_add, (Blk.new W 5 _).cell j]
    have : (sv.map bv)[j]? = some (bv u) := by rw [List.getElem?_map, hu]; rfl
    simpa [sv, svc, bv] using this⟩
theorem nil_byt (W : World) : Byt W none 0 0 0 0 [] := ⟨rfl, Nat.le_refl _, Nat.zero_le _, fun h => absurd h (by simp), fun j u hu => by simp at hu⟩
theorem enc250 : encz 250 = [248, 250] := by
  have h1 : dgs 250 = [250] := by rw [dgs_pos (by omega), show 250 / 256 = 0 by rfl, dgs_zero]; rfl
  have h2 : sz 250 = 1 := by unfold sz; rw [h1]; rfl
  show enc 250 = _
  unfold enc hdb
  rw [if_neg (by omega), h1, h2]
  rfl
theorem rt1 : rt sv = (300, 3, 0) := by decide
theorem rt2 : rt (sv.drop 3) = (2, 1, 0) := by decide
set_option maxHeartbeats 1000000 in
theorem first_any (w : World) : Calls Try.prog 6 #[] w fun e w' => e = .returned (.bool true) ∧ Below w.heap.size w w' := by
  have CR := Lib.hid (fun W => read_any (sv_byt W))
  go_enter Try.func6, Try.ntmps6
  go_wp2_with (first
    | (go_at_call 11
       refine (CR.out w).mono ?_
       rintro _ w2 ⟨rfl, h1, h2⟩
       have HR := Lib.hid h1
       have H2 := Lib.hid (((Below.refl w.heap.size w).alloc (Nat.le_refl _) (.cells svc 5)).trans (h2.mono (by simp)))
       have HG : w.heap.size < (w.alloc (.cells svc 5)).heap.size := by simp
       generalize (w.alloc (.cells svc 5)).heap.size = g at *
       clear h1 h2)
    | (go_at_call 12
       refine (num_ok (P := 0) (n := 300) (k := 3) HR.out (by show 7 ≤ 1000000; omega) (by omega) rt1).mono ?_
       rintro _ w3 ⟨rfl, h1, h2⟩
       have HR3 := Lib.hid (show Rd w3 g ⟨sv.toArray⟩ ((3 : Nat) : Int) 0 from h1)
       have H3 := Lib.hid (H2.out.trans (h2.mono (Nat.le_of_lt HG)))
       clear h1 h2)
    | (go_at_call 13
       refine (text_ok (P := 3) (n := 2) (k := 1) HR3.out (by show 7 ≤ 1000000; omega) (by show 3 ≤ 7; omega) rt2 (by show 6 ≤ 7; omega) (by omega)).mono ?_
       rintro _ w4 ⟨rfl, h1, h2⟩
       have HR4 := Lib.hid (show Rd w4 g ⟨sv.toArray⟩ 6 0 from h1)
       have H4 := Lib.hid (H3.out.trans (h2.mono (Nat.le_of_lt HG)))
       clear h1 h2)
    | (go_at_call 7
       refine (num_any (nil_byt _) (by omega) 250 (by omega)).mono ?_
       rintro _ w5 ⟨v5, rfl, h1, h2⟩
       rw [List.nil_append, enc250] at h1
       have HT := own_text h1
       have HR5 := Lib.hid (show Rd w5 g ⟨sv.toArray⟩ 6 0 from Blk.below HR4.out h2 (Blk.lt HR4.out))
       have H5 := Lib.hid (H4.out.trans (h2.mono H4.out.size))
       clear h1 h2)
    | (go_at_call 15
       refine (left_any HR5.out (by omega) (by show (6 : Int) ≤ 7; omega) (by show 7 ≤ 1000000; omega)).mono ?_
       rintro _ w6 ⟨rfl, h2⟩
       have HR6 := Lib.hid (show Rd w6 g ⟨sv.toArray⟩ 6 0 from Blk.below HR5.out h2 (Blk.lt HR5.out))
       have H6 := Lib.hid (H5.out.trans (h2.mono H5.out.size))
       clear h2)
    | (go_at_call 14
       refine (err_any HR6.out).mono ?_
       rintro _ w7 ⟨rfl, h2⟩
       have H7 := Lib.hid (H6.out.trans (h2.mono H6.out.size))
       clear h2)
    | fail)
  go_ret
  exact ⟨rfl, H7.out⟩
end Go.Proofs.Ytcaimaeikedhoaa
