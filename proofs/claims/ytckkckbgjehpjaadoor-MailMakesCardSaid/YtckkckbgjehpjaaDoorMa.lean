/- The document's own examples; the contracts wherever the walk stands. -/
import Derived.Test.YtckkckbgjehpjaaDoorMq
namespace Go.Proofs.YtckkckbgjehpjaaDoor
open Go.RowKit
open Go.Lib hiding intOf
set_option linter.unusedVariables false
set_option maxRecDepth 100000
theorem canon_on {w : World} (hT : Tabs w) (hM : Mx w) (s : ByteArray) (hs : s.size ≤ 1000000) (r : ByteArray) (k : Int) (hr : mailS s = (r, k)) (v : World) (h : Below w.heap.size w v) : Calls Tryd.prog 7 #[.string s] v fun e v' => e = .returned (.tuple #[.string r, .int .i64 k]) ∧ Below w.heap.size w v' := by
  refine (mcanon_any s hs v (tabs_on hT h (tabs_size hT)) (hM.keep h hM.lt)).mono ?_
  rintro e v' ⟨rfl, h2⟩
  exact ⟨by rw [hr], h.trans (h2.mono h.size)⟩
theorem is_on {w : World} (hT : Tabs w) (hM : Mx w) (s : ByteArray) (hs : s.size ≤ 1000000) (r : Bool) (hr : mailB s.data.toList = r) (v : World) (h : Below w.heap.size w v) : Calls Tryd.prog 11 #[.string s] v fun e v' => e = .returned (.bool r) ∧ Below w.heap.size w v' := by
  refine (isMail_any s hs v (hM.keep h hM.lt)).mono ?_
  rintro e v' ⟨rfl, h2⟩
  exact ⟨by rw [hr], h.trans (h2.mono h.size)⟩
theorem parts_on {w : World} (hT : Tabs w) (hM : Mx w) (s : ByteArray) (hs : s.size ≤ 1000000) (p q : ByteArray) (b : Bool) (hr : partsS s = (p, q, b)) (v : World) (h : Below w.heap.size w v) : Calls Tryd.prog 9 #[.string s] v fun e v' => e = .returned (.tuple #[.string p, .string q, .bool b]) ∧ Below w.heap.size w v' := by
  refine (parts_any s hs v (hM.keep h hM.lt)).mono ?_
  rintro e v' ⟨rfl, h2⟩
  exact ⟨by rw [hr], h.trans (h2.mono h.size)⟩
theorem same_on {w : World} (hT : Tabs w) (hM : Mx w) (a b : ByteArray) (ha : a.size ≤ 1000000) (hb : b.size ≤ 1000000) (r : Bool) (hr : sameB a b = r) (v : World) (h : Below w.heap.size w v) : Calls Tryd.prog 13 #[.string a, .string b] v fun e v' => e = .returned (.bool r) ∧ Below w.heap.size w v' := by
  refine (same_any a b ha hb v (hM.keep h hM.lt)).mono ?_
  rintro e v' ⟨rfl, h2⟩
  exact ⟨by rw [hr], h.trans (h2.mono h.size)⟩
theorem ex_canon : mailS ⟨#[65, 110, 110, 46, 76, 101, 101, 64, 69, 120, 97, 109, 112, 108, 101, 46, 79, 82, 71]⟩ = (⟨#[65, 110, 110, 46, 76, 101, 101, 64, 101, 120, 97, 109, 112, 108, 101, 46, 111, 114, 103]⟩, 0) := by decide +kernel
theorem ex_is : mailB [65, 110, 110, 46, 76, 101, 101, 64, 101, 120, 97, 109, 112, 108, 101, 46, 111, 114, 103] = true := by decide +kernel
theorem ex_same : sameB ⟨#[65, 110, 110, 46, 76, 101, 101, 64, 101, 120, 97, 109, 112, 108, 101, 46, 111, 114, 103]⟩ ⟨#[97, 110, 110, 46, 108, 101, 101, 64, 101, 120, 97, 109, 112, 108, 101, 46, 111, 114, 103]⟩ = true := by decide +kernel
set_option maxHeartbeats 2000000 in
theorem first_on {w : World} (hT : Tabs w) (hM : Mx w) (v : World) (h : Below w.heap.size w v) : Calls Tryd.prog 6 #[] v fun e v' => e = .returned (.bool true) ∧ Below w.heap.size w v' := by
  have HC := Lib.hid (fun v => canon_on hT hM _ (by decide) _ _ ex_canon v)
  have HI := Lib.hid (fun v => is_on hT hM ⟨#[65, 110, 110, 46, 76, 101, 101, 64, 101, 120, 97, 109, 112, 108, 101, 46, 111, 114, 103]⟩ (by decide) _ ex_is v)
  have HS := Lib.hid (fun v => same_on hT hM _ _ (by decide) (by decide) _ ex_same v)
  have HB0 := Lib.hid h
  clear hT hM h
  go_enter Tryd.func6, Tryd.ntmps6
  go_wp2_with (go_at_call 7; (with_reducible refine (HC.out _ HB0.out).mono ?_); rintro e v1 ⟨rfl, hb⟩; have HB1 := Lib.hid hb; clear hb)
  go_wp2_with (go_at_call 11; (with_reducible refine (HI.out _ HB1.out).mono ?_); rintro e v2 ⟨rfl, hb⟩; have HB2 := Lib.hid hb; clear hb)
  go_wp2_with (go_at_call 13; (with_reducible refine (HS.out _ HB2.out).mono ?_); rintro e v3 ⟨rfl, hb⟩; have HB3 := Lib.hid hb; clear hb)
  go_wp2
  go_ret
  exact ⟨rfl, HB3.out⟩
end Go.Proofs.YtckkckbgjehpjaaDoor
