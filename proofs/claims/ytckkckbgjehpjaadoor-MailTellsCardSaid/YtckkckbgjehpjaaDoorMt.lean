/- MailTells. -/
import Derived.Test.YtckkckbgjehpjaaDoorMa
import Derived.Test.YtckkckbgjehpjaaDoorMg
namespace Go.Proofs.YtckkckbgjehpjaaDoor
open Go.RowKit
open Go.Lib hiding intOf
set_option linter.unusedVariables false
set_option maxRecDepth 100000
theorem rmail_on {w : World} (s : ByteArray) (hs : s.size ≤ 1000000) (r : ByteArray) (k : Int) (hr : mailS s = (r, k)) (v : World) (h : Below w.heap.size w v) : Calls Tryd.prog 8 #[.string s] v fun e v' => e = .returned (.tuple #[.string r, .int .i64 k]) ∧ Below w.heap.size w v' := by
  refine (rmail_any s hs v).mono ?_
  rintro e v' ⟨rfl, h2⟩
  exact ⟨by rw [hr], h.trans (h2.mono h.size)⟩
theorem rparts_on {w : World} (s : ByteArray) (hs : s.size ≤ 1000000) (p q : ByteArray) (b : Bool) (hr : partsS s = (p, q, b)) (v : World) (h : Below w.heap.size w v) : Calls Tryd.prog 10 #[.string s] v fun e v' => e = .returned (.tuple #[.string p, .string q, .bool b]) ∧ Below w.heap.size w v' := by
  refine (rparts_any s hs v).mono ?_
  rintro e v' ⟨rfl, h2⟩
  exact ⟨by rw [hr], h.trans (h2.mono h.size)⟩
theorem ris_on {w : World} (s : ByteArray) (hs : s.size ≤ 1000000) (r : Bool) (hr : mailB s.data.toList = r) (v : World) (h : Below w.heap.size w v) : Calls Tryd.prog 12 #[.string s] v fun e v' => e = .returned (.bool r) ∧ Below w.heap.size w v' := by
  refine (risMail_any s hs v).mono ?_
  rintro e v' ⟨rfl, h2⟩
  exact ⟨by rw [hr], h.trans (h2.mono h.size)⟩
theorem rsame_on {w : World} (a b : ByteArray) (ha : a.size ≤ 1000000) (hb : b.size ≤ 1000000) (r : Bool) (hr : sameB a b = r) (v : World) (h : Below w.heap.size w v) : Calls Tryd.prog 14 #[.string a, .string b] v fun e v' => e = .returned (.bool r) ∧ Below w.heap.size w v' := by
  refine (rsame_any a b ha hb v).mono ?_
  rintro e v' ⟨rfl, h2⟩
  exact ⟨by rw [hr], h.trans (h2.mono h.size)⟩
set_option maxHeartbeats 2000000 in
theorem tells_big (w : World) (hT : Tabs w) (hM : Mx w) (a b : ByteArray) (h : 300 < a.size ∨ 300 < b.size) : Calls Tryd.prog 3 #[.string a, .string b] w fun e w' => e = .returned (.bool true) ∧ Below w.heap.size w w' := by
  have HF := Lib.hid (first_on hT hM)
  have HB0 := Lib.hid (Below.refl w.heap.size w)
  clear hT hM
  rcases (show (a.size : Int) > 300 ∨ ((a.size : Int) ≤ 300 ∧ (b.size : Int) > 300) by omega) with h1 | ⟨h1, h2⟩
  all_goals (
    clear h
    go_enter Tryd.func3, Tryd.ntmps3
    go_wp2_with (go_at_call 6; (with_reducible refine (HF.out _ HB0.out).mono ?_); rintro e v1 ⟨rfl, hb⟩; have HB1 := Lib.hid hb; clear hb)
    go_wp2_with (go_at_call 6; (with_reducible refine (HF.out _ HB1.out).mono ?_); rintro e v2 ⟨rfl, hb⟩; have HB2 := Lib.hid hb; clear hb)
    go_wp2
    go_ret
    exact ⟨rfl, HB2.out⟩)
set_option maxHeartbeats 4000000 in
theorem mailTells_walk (w : World) (hT : Tabs w) (hM : Mx w) (a : ByteArray) (w0 : a.size ≤ maxLen) (b : ByteArray) (w1 : b.size ≤ maxLen) :
    Calls Tryd.prog 3 #[.string a, .string b] w fun e w' => e = .returned (.bool true) ∧ Below w.heap.size w w' := by
  by_cases hbig : 300 < a.size ∨ 300 < b.size
  · exact tells_big w hT hM a b hbig
  · have ha : (a.size : Int) ≤ 300 := by omega
    have hb : (b.size : Int) ≤ 300 := by omega
    clear hbig w0 w1
    have HF := Lib.hid (first_on hT hM)
    have HB0 := Lib.hid (Below.refl w.heap.size w)
    obtain ⟨⟨s, k⟩, hs⟩ : ∃ r, mailS a = r := ⟨_, rfl⟩
    obtain ⟨⟨p, q, o⟩, hp⟩ : ∃ r, partsS a = r := ⟨_, rfl⟩
    obtain ⟨t, ht⟩ : ∃ r, mailB a.data.toList = r := ⟨_, rfl⟩
    obtain ⟨l, hl⟩ : ∃ r, sameB a b = r := ⟨_, rfl⟩
    have HC := Lib.hid (fun v => canon_on hT hM a (by omega) s k hs v)
    have HD := Lib.hid (fun v => rmail_on (w := w) a (by omega) s k hs v)
    have HG := Lib.hid (fun v => parts_on hT hM a (by omega) p q o hp v)
    have HH := Lib.hid (fun v => rparts_on (w := w) a (by omega) p q o hp v)
    have HI := Lib.hid (fun v => is_on hT hM a (by omega) t ht v)
    have HJ := Lib.hid (fun v => ris_on (w := w) a (by omega) t ht v)
    have HK := Lib.hid (fun v => same_on hT hM a b (by omega) (by omega) l hl v)
    have HL := Lib.hid (fun v => rsame_on (w := w) a b (by omega) (by omega) l hl v)
    have e1 : (s.toList == s.toList) = true := by simp
    have e2 : (p.toList == p.toList) = true := by simp
    have e2' : (q.toList == q.toList) = true := by simp
    have e3 : (k == k) = true := by simp
    have e4 : (t == t) = true := by simp
    have e5 : (l == l) = true := by simp
    have e6 : (o == o) = true := by simp
    clear hT hM hs hp ht hl
    go_enter Tryd.func3, Tryd.ntmps3
    go_wp2_with (go_at_call 6; (with_reducible refine (HF.out _ HB0.out).mono ?_); rintro e v1 ⟨rfl, hb⟩; have HB1 := Lib.hid hb; clear hb)
    go_wp2_with (go_at_call 7; (with_reducible refine (HC.out _ HB1.out).mono ?_); rintro e v2 ⟨rfl, hb⟩; have HB2 := Lib.hid hb; clear hb)
    go_wp2_with (go_at_call 8; (with_reducible refine (HD.out _ HB2.out).mono ?_); rintro e v3 ⟨rfl, hb⟩; have HB3 := Lib.hid hb; clear hb)
    go_wp2_with (go_at_call 9; (with_reducible refine (HG.out _ HB3.out).mono ?_); rintro e v4 ⟨rfl, hb⟩; have HB4 := Lib.hid hb; clear hb)
    go_wp2_with (go_at_call 10; (with_reducible refine (HH.out _ HB4.out).mono ?_); rintro e v5 ⟨rfl, hb⟩; have HB5 := Lib.hid hb; clear hb)
    go_wp2_with (go_at_call 11; (with_reducible refine (HI.out _ HB5.out).mono ?_); rintro e v6 ⟨rfl, hb⟩; have HB6 := Lib.hid hb; clear hb)
    go_wp2_with (go_at_call 12; (with_reducible refine (HJ.out _ HB6.out).mono ?_); rintro e v7 ⟨rfl, hb⟩; have HB7 := Lib.hid hb; clear hb)
    go_wp2_with (go_at_call 13; (with_reducible refine (HK.out _ HB7.out).mono ?_); rintro e v8 ⟨rfl, hb⟩; have HB8 := Lib.hid hb; clear hb)
    go_wp2_with (go_at_call 14; (with_reducible refine (HL.out _ HB8.out).mono ?_); rintro e v9 ⟨rfl, hb⟩; have HB9 := Lib.hid hb; clear hb)
    go_wp2
    go_ret
    exact ⟨rfl, HB9.out⟩
end Go.Proofs.YtckkckbgjehpjaaDoor
