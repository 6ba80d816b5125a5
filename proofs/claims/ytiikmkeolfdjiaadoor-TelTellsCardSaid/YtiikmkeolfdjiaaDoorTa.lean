/- The document's own examples; the contracts wherever the walk stands. -/
import Derived.Test.YtiikmkeolfdjiaaDoorTs
import Derived.Test.YtiikmkeolfdjiaaDoorSm
namespace Go.Proofs.YtiikmkeolfdjiaaDoor
open Go.RowKit
open Go.Lib hiding intOf
set_option linter.unusedVariables false
set_option maxRecDepth 100000
theorem tabs_on {B : Nat} {w w' : World} (h : Tabs w) (hb : Below B w w') (h2 : 2 ≤ B) : Tabs w' := by
  refine ⟨fun c hc => ?_, fun i hi => ⟨?_, ?_⟩⟩
  · have := h.1 c hc
    simp only [World.cell?] at this ⊢
    rw [hb.block 0 (by omega)]; exact this
  · have := (h.2 i hi).1
    simp only [World.cell?] at this ⊢
    rw [hb.block 1 (by omega)]; exact this
  · have := (h.2 i hi).2
    simp only [World.cell?] at this ⊢
    rw [hb.block 1 (by omega)]; exact this
theorem tabs_size {w : World} (h : Tabs w) : 2 ≤ w.heap.size := by
  have h1 := (h.2 0 (by decide)).1
  cases hh : w.heap[1]? with
  | none => simp [World.cell?, hh] at h1
  | some o => have := (Array.getElem?_eq_some_iff.1 hh).1; omega
theorem canon_on {w : World} (hT : Tabs w) (s : ByteArray) (hs : s.size ≤ 1000000) (r : ByteArray) (k : Int) (hr : telS s = (r, k)) (v : World) (h : Below w.heap.size w v) : Calls Tryd.prog 7 #[.string s] v fun e v' => e = .returned (.tuple #[.string r, .int .i64 k]) ∧ Below w.heap.size w v' := by
  refine (tcanon_any s hs v (tabs_on hT h (tabs_size hT))).mono ?_
  rintro e v' ⟨rfl, h2⟩
  exact ⟨by rw [hr], h.trans (h2.mono h.size)⟩
theorem is_on {w : World} (s : ByteArray) (hs : s.size ≤ 1000000) (r : Bool) (hr : telB s.data.toList = r) (v : World) (h : Below w.heap.size w v) : Calls Tryd.prog 9 #[.string s] v fun e v' => e = .returned (.bool r) ∧ Below w.heap.size w v' := by
  refine (is_any s hs v).mono ?_
  rintro e v' ⟨rfl, rfl⟩
  exact ⟨by rw [hr], h⟩
theorem show_on {w : World} (s : ByteArray) (hs : s.size ≤ 1000000) (r : ByteArray) (hr : (⟨(showL s.data.toList).toArray⟩ : ByteArray) = r) (v : World) (h : Below w.heap.size w v) : Calls Tryd.prog 11 #[.string s] v fun e v' => e = .returned (.string r) ∧ Below w.heap.size w v' := by
  refine (show_any s hs v).mono ?_
  rintro e v' ⟨rfl, h2⟩
  exact ⟨by rw [hr], h.trans (h2.mono h.size)⟩
theorem match_on {w : World} (a b : ByteArray) (ha : a.size ≤ 1000000) (hb : b.size ≤ 1000000) (r : Bool) (hr : matchB a.data.toList b.data.toList = r) (v : World) (h : Below w.heap.size w v) : Calls Tryd.prog 13 #[.string a, .string b] v fun e v' => e = .returned (.bool r) ∧ Below w.heap.size w v' := by
  refine (match_any a b ha hb v).mono ?_
  rintro e v' ⟨rfl, rfl⟩
  exact ⟨by rw [hr], h⟩
theorem ex_canon : telS ⟨#[43, 52, 57, 32, 40, 51, 48, 41, 32, 49, 50, 51, 45, 52, 53, 54]⟩ = (⟨#[43, 52, 57, 51, 48, 49, 50, 51, 52, 53, 54]⟩, 0) := by decide +kernel
theorem ex_show : (⟨(showL [43, 52, 57, 51, 48, 49, 50, 51, 52, 53, 54]).toArray⟩ : ByteArray) = ⟨#[43, 52, 57, 51, 32, 48, 49, 50, 32, 51, 52, 53, 32, 54]⟩ := by decide +kernel
theorem ex_is : telB [49, 50, 51] = true := by decide +kernel
set_option maxHeartbeats 2000000 in
theorem first_on {w : World} (hT : Tabs w) (v : World) (h : Below w.heap.size w v) : Calls Tryd.prog 6 #[] v fun e v' => e = .returned (.bool true) ∧ Below w.heap.size w v' := by
  have HC := Lib.hid (fun v => canon_on hT _ (by decide) _ _ ex_canon v)
  have HS := Lib.hid (fun v => show_on (w := w) ⟨#[43, 52, 57, 51, 48, 49, 50, 51, 52, 53, 54]⟩ (by decide) _ ex_show v)
  have HI := Lib.hid (fun v => is_on (w := w) ⟨#[49, 50, 51]⟩ (by decide) _ ex_is v)
  have HB0 := Lib.hid h
  clear hT h
  go_enter Tryd.func6, Tryd.ntmps6
  go_wp2_with (go_at_call 7; with_reducible refine (HC.out _ HB0.out).mono ?_)
  rintro e v1 ⟨rfl, hb⟩
  have HB1 := Lib.hid hb
  clear hb
  go_wp2_with (go_at_call 11; with_reducible refine (HS.out _ HB1.out).mono ?_)
  rintro e v2 ⟨rfl, hb⟩
  have HB2 := Lib.hid hb
  clear hb
  go_wp2_with (go_at_call 9; with_reducible refine (HI.out _ HB2.out).mono ?_)
  rintro e v3 ⟨rfl, hb⟩
  have HB3 := Lib.hid hb
  clear hb
  go_wp2
  go_ret
  exact ⟨rfl, HB3.out⟩
end Go.Proofs.YtiikmkeolfdjiaaDoor
