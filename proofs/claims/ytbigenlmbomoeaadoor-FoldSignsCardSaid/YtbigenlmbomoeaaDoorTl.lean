/- FoldTells, FoldSigns: their walks. -/
import Derived.Test.YtbigenlmbomoeaaDoorOp
import Derived.Test.YtbigenlmbomoeaaDoorRs
import Derived.Test.YtbigenlmbomoeaaDoorRk
import Derived.Test.YtbigenlmbomoeaaDoorRd
namespace Go.Proofs.YtbigenlmbomoeaaDoor
open Go.RowKit
open Go.Lib hiding intOf
set_option linter.unusedVariables false
set_option maxRecDepth 100000
theorem rless_on {w : World} (a b : ByteArray) (ha : a.size ≤ 1000000) (hb : b.size ≤ 1000000) (r : Bool) (hr : lessS a b = r) (v : World) (h : Below w.heap.size w v) : Calls Tryd.prog 13 #[.string a, .string b] v fun e v' => e = .returned (.bool r) ∧ Below w.heap.size w v' := by
  refine (rless_any a b ha hb v).mono ?_
  rintro e v' ⟨rfl, h2⟩
  exact ⟨by rw [hr], h.trans (h2.mono h.size)⟩
theorem rfold_on {w : World} (a : ByteArray) (ha : a.size ≤ 1000000) (r : ByteArray) (hr : lowS a = r) (v : World) (h : Below w.heap.size w v) : Calls Tryd.prog 11 #[.string a] v fun e v' => e = .returned (.string r) ∧ Below w.heap.size w v' := by
  refine (rfold_any a ha v).mono ?_
  rintro e v' ⟨rfl, h2⟩
  exact ⟨by rw [hr], h.trans (h2.mono h.size)⟩
theorem rclean_on {w : World} (s : ByteArray) (hs : s.size ≤ 1000000) (r : ByteArray) (k : Int) (hr : cleanS s = (r, k)) (v : World) (h : Below w.heap.size w v) : Calls Tryd.prog 9 #[.string s] v fun e v' => e = .returned (.tuple #[.string r, .int .i64 k]) ∧ Below w.heap.size w v' := by
  refine (rclean_any s hs v).mono ?_
  rintro e v' ⟨rfl, h2⟩
  exact ⟨by rw [hr], h.trans (h2.mono h.size)⟩
theorem rsigns_on {w : World} (s : ByteArray) (hs : s.size ≤ 1000000) (n : Int) (hn : (signs s : Int) = n) (v : World) (h : Below w.heap.size w v) : Calls Tryd.prog 15 #[.string s] v fun e v' => e = .returned (.int .i64 n) ∧ Below w.heap.size w v' := by
  refine (rsigns_any s hs v).mono ?_
  rintro e v' ⟨rfl, rfl⟩
  exact ⟨by rw [hn], h⟩
theorem signs_on {w : World} (hT : Tabs w) (s : ByteArray) (hs : s.size ≤ 1000000) (n : Int) (hn : (signs s : Int) = n) (v : World) (h : Below w.heap.size w v) : Calls Tryd.prog 14 #[.string s] v fun e v' => e = .returned (.int .i64 n) ∧ Below w.heap.size w v' := by
  refine (signs_any s hs v (tabs_on hT h (tabs_size hT))).mono ?_
  rintro e v' ⟨rfl, h2⟩
  exact ⟨by rw [hn], h.trans (h2.mono h.size)⟩
set_option maxHeartbeats 2000000 in
theorem tells_big (w : World) (hT : Tabs w) (a b : ByteArray) (h : 400 < a.size ∨ 400 < b.size) : Calls Tryd.prog 3 #[.string a, .string b] w fun e w' => e = .returned (.bool true) ∧ Below w.heap.size w w' := by
  have HF := Lib.hid (first_on hT)
  have HB0 := Lib.hid (Below.refl w.heap.size w)
  clear hT
  rcases (show (a.size : Int) > 400 ∨ ((a.size : Int) ≤ 400 ∧ (b.size : Int) > 400) by omega) with h1 | ⟨h1, h2⟩
  all_goals (
    clear h
    go_enter Tryd.func3, Tryd.ntmps3
    go_wp2_with (go_at_call 7; refine (HF.out _ HB0.out).mono ?_)
    rintro e v1 ⟨rfl, hb⟩
    have HB1 := Lib.hid hb
    clear hb
    go_wp2_with (go_at_call 7; refine (HF.out _ HB1.out).mono ?_)
    rintro e v2 ⟨rfl, hb⟩
    have HB2 := Lib.hid hb
    clear hb
    go_wp2
    go_ret
    exact ⟨rfl, HB2.out⟩)
set_option maxHeartbeats 2000000 in
theorem signs_big (w : World) (hT : Tabs w) (a b : ByteArray) (h : 200 < a.size ∨ 200 < b.size) : Calls Tryd.prog 6 #[.string a, .string b] w fun e w' => e = .returned (.bool true) ∧ Below w.heap.size w w' := by
  have HF := Lib.hid (first_on hT)
  have HB0 := Lib.hid (Below.refl w.heap.size w)
  clear hT
  rcases (show (a.size : Int) > 200 ∨ ((a.size : Int) ≤ 200 ∧ (b.size : Int) > 200) by omega) with h1 | ⟨h1, h2⟩
  all_goals (
    clear h
    go_enter Tryd.func6, Tryd.ntmps6
    go_wp2_with (go_at_call 7; refine (HF.out _ HB0.out).mono ?_)
    rintro e v1 ⟨rfl, hb⟩
    have HB1 := Lib.hid hb
    clear hb
    go_wp2_with (go_at_call 7; refine (HF.out _ HB1.out).mono ?_)
    rintro e v2 ⟨rfl, hb⟩
    have HB2 := Lib.hid hb
    clear hb
    go_wp2
    go_ret
    exact ⟨rfl, HB2.out⟩)
set_option maxHeartbeats 4000000 in
theorem foldTells_walk (w : World) (hT : Tabs w) (a : ByteArray) (w0 : a.size ≤ maxLen) (b : ByteArray) (w1 : b.size ≤ maxLen) :
    Calls Tryd.prog 3 #[.string a, .string b] w fun e w' => e = .returned (.bool true) ∧ Below w.heap.size w w' := by
  by_cases hbig : 400 < a.size ∨ 400 < b.size
  · exact tells_big w hT a b hbig
  · have ha : (a.size : Int) ≤ 400 := by omega
    have hb : (b.size : Int) ≤ 400 := by omega
    clear hbig w0 w1
    have HF := Lib.hid (first_on hT)
    have HB0 := Lib.hid (Below.refl w.heap.size w)
    obtain ⟨⟨s, k⟩, hs⟩ : ∃ r, cleanS a = r := ⟨_, rfl⟩
    obtain ⟨f, hf⟩ : ∃ r, lowS a = r := ⟨_, rfl⟩
    obtain ⟨l, hl⟩ : ∃ r, lessS a b = r := ⟨_, rfl⟩
    obtain ⟨n, hn⟩ : ∃ n : Int, (signs a : Int) = n := ⟨_, rfl⟩
    have HC := Lib.hid (fun v => clean_on (w := w) hT a (by omega) s k hs v)
    have HD := Lib.hid (fun v => rclean_on (w := w) a (by omega) s k hs v)
    have HG := Lib.hid (fun v => fold_on (w := w) a (by omega) f hf v)
    have HH := Lib.hid (fun v => rfold_on (w := w) a (by omega) f hf v)
    have HI := Lib.hid (fun v => less_on (w := w) a b (by omega) (by omega) l hl v)
    have HJ := Lib.hid (fun v => rless_on (w := w) a b (by omega) (by omega) l hl v)
    have HK := Lib.hid (fun v => signs_on (w := w) hT a (by omega) n hn v)
    have HL := Lib.hid (fun v => rsigns_on (w := w) a (by omega) n hn v)
    have e1 : (s.toList == s.toList) = true := by simp
    have e2 : (f.toList == f.toList) = true := by simp
    have e3 : (k == k) = true := by simp
    have e4 : (n == n) = true := by simp
    clear hT hs hf hl hn
    go_enter Tryd.func3, Tryd.ntmps3
    go_wp2_with (go_at_call 7; refine (HF.out _ HB0.out).mono ?_)
    rintro e v1 ⟨rfl, hb⟩
    have HB1 := Lib.hid hb
    clear hb
    go_wp2_with (go_at_call 8; refine (HC.out _ HB1.out).mono ?_)
    rintro e v2 ⟨rfl, hb⟩
    have HB2 := Lib.hid hb
    clear hb
    go_wp2_with (go_at_call 9; refine (HD.out _ HB2.out).mono ?_)
    rintro e v3 ⟨rfl, hb⟩
    have HB3 := Lib.hid hb
    clear hb
    go_wp2_with (go_at_call 10; refine (HG.out _ HB3.out).mono ?_)
    rintro e v4 ⟨rfl, hb⟩
    have HB4 := Lib.hid hb
    clear hb
    go_wp2_with (go_at_call 11; refine (HH.out _ HB4.out).mono ?_)
    rintro e v5 ⟨rfl, hb⟩
    have HB5 := Lib.hid hb
    clear hb
    go_wp2_with (go_at_call 12; refine (HI.out _ HB5.out).mono ?_)
    rintro e v6 ⟨rfl, hb⟩
    have HB6 := Lib.hid hb
    clear hb
    go_wp2_with (go_at_call 13; refine (HJ.out _ HB6.out).mono ?_)
    rintro e v7 ⟨rfl, hb⟩
    have HB7 := Lib.hid hb
    clear hb
    go_wp2_with (go_at_call 14; refine (HK.out _ HB7.out).mono ?_)
    rintro e v8 ⟨rfl, hb⟩
    have HB8 := Lib.hid hb
    clear hb
    go_wp2_with (go_at_call 15; refine (HL.out _ HB8.out).mono ?_)
    rintro e v9 ⟨rfl, hb⟩
    have HB9 := Lib.hid hb
    clear hb
    go_wp2
    go_ret
    exact ⟨rfl, HB9.out⟩
theorem rcL_le : ∀ (k : Nat) (l : List UInt8), l.length ≤ k → rcL l ≤ l.length
  | _, [], _ => by rw [rcL_nil]; exact Nat.zero_le _
  | 0, _ :: _, h => by simp at h
  | k + 1, c :: t, h => by
    have hw := decodeL_width (c :: t)
    have ih := rcL_le k ((c :: t).drop (decodeL (c :: t)).2) (by simp only [List.length_drop]; simp at h hw ⊢; omega)
    rw [rcL_step _ (by simp)]
    simp only [List.length_drop] at ih
    have : 0 < (c :: t).length := by simp
    omega
theorem signs_le (a : ByteArray) : signs a ≤ a.size := by
  rw [signs_eq]
  split
  · have := rcL_le _ a.data.toList (Nat.le_refl _); simpa using this
  · exact Nat.zero_le _
/-- What FoldSigns asks, as one list of facts. -/
theorem signs_facts (a b : ByteArray) : (signs a > 0 → signs b > 0 → signs (a ++ b) = signs a + signs b) ∧ (signs a > 0 → signs (a ++ ⟨#[120]⟩) = signs a + 1) ∧ signs (a ++ ⟨#[226, 130]⟩) = 0 ∧ signs (a ++ ⟨#[192, 128]⟩) = 0 ∧ (signs a > 0 → signs (a ++ ⟨#[226, 130, 172]⟩) = signs a + 1) := by
  have hv : ∀ x, signs x > 0 → validD x.data.toList = true := by
    intro x hx
    cases h : validD x.data.toList with
    | true => rfl
    | false => have := (signs_zero x).2 (.inr h); omega
  have s1 : signs ⟨#[120]⟩ = 1 := by decide +kernel
  have s2 : signs ⟨#[226, 130, 172]⟩ = 1 := by decide +kernel
  exact ⟨fun h1 h2 => signs_app a b (hv a h1) (hv b h2), fun h => by rw [signs_app a _ (hv a h) (by decide +kernel), s1],
    signs_cut a _ (by decide +kernel) 226 [130] rfl (by decide), signs_cut a _ (by decide +kernel) 192 [128] rfl (by decide),
    fun h => by rw [signs_app a _ (hv a h) (by decide +kernel), s2]⟩
set_option maxHeartbeats 4000000 in
theorem signs_00 (w : World) (hT : Tabs w) (a b : ByteArray) (ha : (a.size : Int) ≤ 200) (hb : (b.size : Int) ≤ 200) (n m : Nat) (hn : signs a = n) (hm : signs b = m) (bn : (n : Int) ≤ 200) (bm : (m : Int) ≤ 200) (ze : n = 0) (hz : (a.size : Int) = 0)
    (h4 : signs (a ++ ⟨#[226, 130]⟩) = 0) (h5 : signs (a ++ ⟨#[192, 128]⟩) = 0) :
    Calls Tryd.prog 6 #[.string a, .string b] w fun e w' => e = .returned (.bool true) ∧ Below w.heap.size w w' := by
  have HF := Lib.hid (first_on hT)
  have HB0 := Lib.hid (Below.refl w.heap.size w)
  have hab : (a ++ b).size = a.size + b.size := ByteArray.size_append
  have hax : (a ++ ⟨#[120]⟩).size = a.size + 1 := ByteArray.size_append
  have hay : (a ++ ⟨#[226, 130]⟩).size = a.size + 2 := ByteArray.size_append
  have haz : (a ++ ⟨#[192, 128]⟩).size = a.size + 2 := ByteArray.size_append
  have hau : (a ++ ⟨#[226, 130, 172]⟩).size = a.size + 3 := ByteArray.size_append
  have HN := Lib.hid (fun v => signs_on (w := w) hT a (by omega) (n : Int) (by rw [hn]) v)
  have HM := Lib.hid (fun v => signs_on (w := w) hT b (by omega) (m : Int) (by rw [hm]) v)
  have HR := Lib.hid (fun v => rsigns_on (w := w) a (by omega) (n : Int) (by rw [hn]) v)
  have HY := Lib.hid (fun v => signs_on (w := w) hT (a ++ ⟨#[226, 130]⟩) (by omega) (0 : Int) (by rw [h4]; rfl) v)
  have HZ := Lib.hid (fun v => signs_on (w := w) hT (a ++ ⟨#[192, 128]⟩) (by omega) (0 : Int) (by rw [h5]; rfl) v)
  subst ze
  have hz' : (((a.size : Int)) == 0) = true := by rw [hz]; rfl
  clear hT hn hm h4 h5 hab hax hay haz hau hz
  go_enter Tryd.func6, Tryd.ntmps6
  go_wp2_with (go_at_call 7; refine (HF.out _ HB0.out).mono ?_)
  rintro e v1 ⟨rfl, hb⟩
  have HB1 := Lib.hid hb
  clear hb
  go_wp2_with (go_at_call 14; refine (HN.out _ HB1.out).mono ?_)
  rintro e v2 ⟨rfl, hb⟩
  have HB2 := Lib.hid hb
  clear hb
  go_wp2_with (go_at_call 14; refine (HM.out _ HB2.out).mono ?_)
  rintro e v3 ⟨rfl, hb⟩
  have HB3 := Lib.hid hb
  clear hb
  go_wp2_with (go_at_call 14; refine (HY.out _ HB3.out).mono ?_)
  rintro e v4 ⟨rfl, hb⟩
  have HB4 := Lib.hid hb
  clear hb
  go_wp2_with (go_at_call 14; refine (HZ.out _ HB4.out).mono ?_)
  rintro e v5 ⟨rfl, hb⟩
  have HB5 := Lib.hid hb
  clear hb
  go_wp2
  go_ret
  exact ⟨rfl, HB5.out⟩
set_option maxHeartbeats 4000000 in
theorem signs_0 (w : World) (hT : Tabs w) (a b : ByteArray) (ha : (a.size : Int) ≤ 200) (hb : (b.size : Int) ≤ 200) (n m : Nat) (hn : signs a = n) (hm : signs b = m) (bn : (n : Int) ≤ 200) (bm : (m : Int) ≤ 200) (ze : n = 0) (hz : 0 < (a.size : Int))
    (h4 : signs (a ++ ⟨#[226, 130]⟩) = 0) (h5 : signs (a ++ ⟨#[192, 128]⟩) = 0) :
    Calls Tryd.prog 6 #[.string a, .string b] w fun e w' => e = .returned (.bool true) ∧ Below w.heap.size w w' := by
  have HF := Lib.hid (first_on hT)
  have HB0 := Lib.hid (Below.refl w.heap.size w)
  have hab : (a ++ b).size = a.size + b.size := ByteArray.size_append
  have hax : (a ++ ⟨#[120]⟩).size = a.size + 1 := ByteArray.size_append
  have hay : (a ++ ⟨#[226, 130]⟩).size = a.size + 2 := ByteArray.size_append
  have haz : (a ++ ⟨#[192, 128]⟩).size = a.size + 2 := ByteArray.size_append
  have hau : (a ++ ⟨#[226, 130, 172]⟩).size = a.size + 3 := ByteArray.size_append
  have HN := Lib.hid (fun v => signs_on (w := w) hT a (by omega) (n : Int) (by rw [hn]) v)
  have HM := Lib.hid (fun v => signs_on (w := w) hT b (by omega) (m : Int) (by rw [hm]) v)
  have HR := Lib.hid (fun v => rsigns_on (w := w) a (by omega) (n : Int) (by rw [hn]) v)
  have HY := Lib.hid (fun v => signs_on (w := w) hT (a ++ ⟨#[226, 130]⟩) (by omega) (0 : Int) (by rw [h4]; rfl) v)
  have HZ := Lib.hid (fun v => signs_on (w := w) hT (a ++ ⟨#[192, 128]⟩) (by omega) (0 : Int) (by rw [h5]; rfl) v)
  subst ze
  have hz' : (((a.size : Int)) == 0) = false := by rw [beq_eq_false_iff_ne]; omega
  clear hT hn hm h4 h5 hab hax hay haz hau
  go_enter Tryd.func6, Tryd.ntmps6
  go_wp2_with (go_at_call 7; refine (HF.out _ HB0.out).mono ?_)
  rintro e v1 ⟨rfl, hb⟩
  have HB1 := Lib.hid hb
  clear hb
  go_wp2_with (go_at_call 14; refine (HN.out _ HB1.out).mono ?_)
  rintro e v2 ⟨rfl, hb⟩
  have HB2 := Lib.hid hb
  clear hb
  go_wp2_with (go_at_call 14; refine (HM.out _ HB2.out).mono ?_)
  rintro e v3 ⟨rfl, hb⟩
  have HB3 := Lib.hid hb
  clear hb
  go_wp2_with (go_at_call 15; refine (HR.out _ HB3.out).mono ?_)
  rintro e v4 ⟨rfl, hb⟩
  have HB4 := Lib.hid hb
  clear hb
  go_wp2_with (go_at_call 14; refine (HY.out _ HB4.out).mono ?_)
  rintro e v5 ⟨rfl, hb⟩
  have HB5 := Lib.hid hb
  clear hb
  go_wp2_with (go_at_call 14; refine (HZ.out _ HB5.out).mono ?_)
  rintro e v6 ⟨rfl, hb⟩
  have HB6 := Lib.hid hb
  clear hb
  go_wp2
  go_ret
  exact ⟨rfl, HB6.out⟩
set_option maxHeartbeats 4000000 in
theorem signs_n0 (w : World) (hT : Tabs w) (a b : ByteArray) (ha : (a.size : Int) ≤ 200) (hb : (b.size : Int) ≤ 200) (n m : Nat) (hn : signs a = n) (hm : signs b = m) (bn : (n : Int) ≤ 200) (bm : (m : Int) ≤ 200) (hp : 0 < (n : Int)) (hz : 0 < (a.size : Int)) (zm : m = 0) (h2 : signs (a ++ ⟨#[120]⟩) = n + 1) (h6 : signs (a ++ ⟨#[226, 130, 172]⟩) = n + 1)
    (h4 : signs (a ++ ⟨#[226, 130]⟩) = 0) (h5 : signs (a ++ ⟨#[192, 128]⟩) = 0) :
    Calls Tryd.prog 6 #[.string a, .string b] w fun e w' => e = .returned (.bool true) ∧ Below w.heap.size w w' := by
  have HF := Lib.hid (first_on hT)
  have HB0 := Lib.hid (Below.refl w.heap.size w)
  have hab : (a ++ b).size = a.size + b.size := ByteArray.size_append
  have hax : (a ++ ⟨#[120]⟩).size = a.size + 1 := ByteArray.size_append
  have hay : (a ++ ⟨#[226, 130]⟩).size = a.size + 2 := ByteArray.size_append
  have haz : (a ++ ⟨#[192, 128]⟩).size = a.size + 2 := ByteArray.size_append
  have hau : (a ++ ⟨#[226, 130, 172]⟩).size = a.size + 3 := ByteArray.size_append
  have HN := Lib.hid (fun v => signs_on (w := w) hT a (by omega) (n : Int) (by rw [hn]) v)
  have HM := Lib.hid (fun v => signs_on (w := w) hT b (by omega) (m : Int) (by rw [hm]) v)
  have HR := Lib.hid (fun v => rsigns_on (w := w) a (by omega) (n : Int) (by rw [hn]) v)
  have HY := Lib.hid (fun v => signs_on (w := w) hT (a ++ ⟨#[226, 130]⟩) (by omega) (0 : Int) (by rw [h4]; rfl) v)
  have HZ := Lib.hid (fun v => signs_on (w := w) hT (a ++ ⟨#[192, 128]⟩) (by omega) (0 : Int) (by rw [h5]; rfl) v)
  subst zm
  have HX := Lib.hid (fun v => signs_on (w := w) hT (a ++ ⟨#[120]⟩) (by omega) ((n : Int) + 1) (by rw [h2]; rfl) v)
  have HU := Lib.hid (fun v => signs_on (w := w) hT (a ++ ⟨#[226, 130, 172]⟩) (by omega) ((n : Int) + 1) (by rw [h6]; rfl) v)
  have hz' : (((a.size : Int)) == 0) = false := by rw [beq_eq_false_iff_ne]; omega
  have hp' : ((n : Int) == 0) = false := by rw [beq_eq_false_iff_ne]; omega
  clear hT hn hm h4 h5 hab hax hay haz hau h2 h6
  go_enter Tryd.func6, Tryd.ntmps6
  go_wp2_with (go_at_call 7; refine (HF.out _ HB0.out).mono ?_)
  rintro e v1 ⟨rfl, hb⟩
  have HB1 := Lib.hid hb
  clear hb
  go_wp2_with (go_at_call 14; refine (HN.out _ HB1.out).mono ?_)
  rintro e v2 ⟨rfl, hb⟩
  have HB2 := Lib.hid hb
  clear hb
  go_wp2_with (go_at_call 14; refine (HM.out _ HB2.out).mono ?_)
  rintro e v3 ⟨rfl, hb⟩
  have HB3 := Lib.hid hb
  clear hb
  go_wp2_with (go_at_call 15; refine (HR.out _ HB3.out).mono ?_)
  rintro e v4 ⟨rfl, hb⟩
  have HB4 := Lib.hid hb
  clear hb
  go_wp2_with (go_at_call 14; refine (HX.out _ HB4.out).mono ?_)
  rintro e v5 ⟨rfl, hb⟩
  have HB5 := Lib.hid hb
  clear hb
  go_wp2_with (go_at_call 14; refine (HY.out _ HB5.out).mono ?_)
  rintro e v6 ⟨rfl, hb⟩
  have HB6 := Lib.hid hb
  clear hb
  go_wp2_with (go_at_call 14; refine (HZ.out _ HB6.out).mono ?_)
  rintro e v7 ⟨rfl, hb⟩
  have HB7 := Lib.hid hb
  clear hb
  go_wp2_with (go_at_call 14; refine (HU.out _ HB7.out).mono ?_)
  rintro e v8 ⟨rfl, hb⟩
  have HB8 := Lib.hid hb
  clear hb
  go_wp2
  go_ret
  exact ⟨rfl, HB8.out⟩
set_option maxHeartbeats 4000000 in
theorem signs_nm (w : World) (hT : Tabs w) (a b : ByteArray) (ha : (a.size : Int) ≤ 200) (hb : (b.size : Int) ≤ 200) (n m : Nat) (hn : signs a = n) (hm : signs b = m) (bn : (n : Int) ≤ 200) (bm : (m : Int) ≤ 200) (hp : 0 < (n : Int)) (hz : 0 < (a.size : Int)) (hq : 0 < (m : Int)) (h1 : signs (a ++ b) = n + m) (h2 : signs (a ++ ⟨#[120]⟩) = n + 1) (h6 : signs (a ++ ⟨#[226, 130, 172]⟩) = n + 1)
    (h4 : signs (a ++ ⟨#[226, 130]⟩) = 0) (h5 : signs (a ++ ⟨#[192, 128]⟩) = 0) :
    Calls Tryd.prog 6 #[.string a, .string b] w fun e w' => e = .returned (.bool true) ∧ Below w.heap.size w w' := by
  have HF := Lib.hid (first_on hT)
  have HB0 := Lib.hid (Below.refl w.heap.size w)
  have hab : (a ++ b).size = a.size + b.size := ByteArray.size_append
  have hax : (a ++ ⟨#[120]⟩).size = a.size + 1 := ByteArray.size_append
  have hay : (a ++ ⟨#[226, 130]⟩).size = a.size + 2 := ByteArray.size_append
  have haz : (a ++ ⟨#[192, 128]⟩).size = a.size + 2 := ByteArray.size_append
  have hau : (a ++ ⟨#[226, 130, 172]⟩).size = a.size + 3 := ByteArray.size_append
  have HN := Lib.hid (fun v => signs_on (w := w) hT a (by omega) (n : Int) (by rw [hn]) v)
  have HM := Lib.hid (fun v => signs_on (w := w) hT b (by omega) (m : Int) (by rw [hm]) v)
  have HR := Lib.hid (fun v => rsigns_on (w := w) a (by omega) (n : Int) (by rw [hn]) v)
  have HY := Lib.hid (fun v => signs_on (w := w) hT (a ++ ⟨#[226, 130]⟩) (by omega) (0 : Int) (by rw [h4]; rfl) v)
  have HZ := Lib.hid (fun v => signs_on (w := w) hT (a ++ ⟨#[192, 128]⟩) (by omega) (0 : Int) (by rw [h5]; rfl) v)
  have HW := Lib.hid (fun v => signs_on (w := w) hT (a ++ b) (by omega) ((n : Int) + (m : Int)) (by rw [h1]; rfl) v)
  have HX := Lib.hid (fun v => signs_on (w := w) hT (a ++ ⟨#[120]⟩) (by omega) ((n : Int) + 1) (by rw [h2]; rfl) v)
  have HU := Lib.hid (fun v => signs_on (w := w) hT (a ++ ⟨#[226, 130, 172]⟩) (by omega) ((n : Int) + 1) (by rw [h6]; rfl) v)
  have hz' : (((a.size : Int)) == 0) = false := by rw [beq_eq_false_iff_ne]; omega
  have hp' : ((n : Int) == 0) = false := by rw [beq_eq_false_iff_ne]; omega
  clear hT hn hm h4 h5 hab hax hay haz hau h1 h2 h6
  go_enter Tryd.func6, Tryd.ntmps6
  go_wp2_with (go_at_call 7; refine (HF.out _ HB0.out).mono ?_)
  rintro e v1 ⟨rfl, hb⟩
  have HB1 := Lib.hid hb
  clear hb
  go_wp2_with (go_at_call 14; refine (HN.out _ HB1.out).mono ?_)
  rintro e v2 ⟨rfl, hb⟩
  have HB2 := Lib.hid hb
  clear hb
  go_wp2_with (go_at_call 14; refine (HM.out _ HB2.out).mono ?_)
  rintro e v3 ⟨rfl, hb⟩
  have HB3 := Lib.hid hb
  clear hb
  go_wp2_with (go_at_call 15; refine (HR.out _ HB3.out).mono ?_)
  rintro e v4 ⟨rfl, hb⟩
  have HB4 := Lib.hid hb
  clear hb
  go_wp2_with (go_at_call 14; refine (HW.out _ HB4.out).mono ?_)
  rintro e v5 ⟨rfl, hb⟩
  have HB5 := Lib.hid hb
  clear hb
  go_wp2_with (go_at_call 14; refine (HX.out _ HB5.out).mono ?_)
  rintro e v6 ⟨rfl, hb⟩
  have HB6 := Lib.hid hb
  clear hb
  go_wp2_with (go_at_call 14; refine (HY.out _ HB6.out).mono ?_)
  rintro e v7 ⟨rfl, hb⟩
  have HB7 := Lib.hid hb
  clear hb
  go_wp2_with (go_at_call 14; refine (HZ.out _ HB7.out).mono ?_)
  rintro e v8 ⟨rfl, hb⟩
  have HB8 := Lib.hid hb
  clear hb
  go_wp2_with (go_at_call 14; refine (HU.out _ HB8.out).mono ?_)
  rintro e v9 ⟨rfl, hb⟩
  have HB9 := Lib.hid hb
  clear hb
  go_wp2
  go_ret
  exact ⟨rfl, HB9.out⟩
theorem foldSigns_walk (w : World) (hT : Tabs w) (a : ByteArray) (w0 : a.size ≤ maxLen) (b : ByteArray) (w1 : b.size ≤ maxLen) :
    Calls Tryd.prog 6 #[.string a, .string b] w fun e w' => e = .returned (.bool true) ∧ Below w.heap.size w w' := by
  by_cases hbig : 200 < a.size ∨ 200 < b.size
  · exact signs_big w hT a b hbig
  · have ha : (a.size : Int) ≤ 200 := by omega
    have hb : (b.size : Int) ≤ 200 := by omega
    have la := signs_le a
    have lb := signs_le b
    obtain ⟨f1, f2, f4, f5, f6⟩ := signs_facts a b
    by_cases hn : signs a = 0
    · by_cases hz : a.size = 0
      · exact signs_00 w hT a b ha hb _ _ rfl rfl (by omega) (by omega) hn (by omega) f4 f5
      · exact signs_0 w hT a b ha hb _ _ rfl rfl (by omega) (by omega) hn (by omega) f4 f5
    · by_cases hm : signs b = 0
      · exact signs_n0 w hT a b ha hb _ _ rfl rfl (by omega) (by omega) (by omega) (by omega) hm (f2 (by omega)) (f6 (by omega)) f4 f5
      · exact signs_nm w hT a b ha hb _ _ rfl rfl (by omega) (by omega) (by omega) (by omega) (by omega) (f1 (by omega) (by omega)) (f2 (by omega)) (f6 (by omega)) f4 f5
end Go.Proofs.YtbigenlmbomoeaaDoor
