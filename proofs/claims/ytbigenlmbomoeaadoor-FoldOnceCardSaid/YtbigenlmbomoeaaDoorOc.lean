/- FoldOnce: its walk. -/
import Derived.Test.YtbigenlmbomoeaaDoorOp
import Derived.Laws.Concat
namespace Go.Proofs.YtbigenlmbomoeaaDoor
open Go.RowKit
set_option linter.unusedVariables false
set_option maxRecDepth 100000
set_option maxHeartbeats 2000000 in
theorem once_big (w : World) (hT : Tabs w) (a b : ByteArray) (h : 300 < a.size ∨ 300 < b.size) : Calls Tryd.prog 4 #[.string a, .string b] w fun e w' => e = .returned (.bool true) ∧ Below w.heap.size w w' := by
  have HF := Lib.hid (first_on hT)
  have HB0 := Lib.hid (Below.refl w.heap.size w)
  clear hT
  rcases (show (a.size : Int) > 300 ∨ ((a.size : Int) ≤ 300 ∧ (b.size : Int) > 300) by omega) with h1 | ⟨h1, h2⟩
  all_goals (
    clear h
    go_enter Tryd.func4, Tryd.ntmps4
    go_wp2_with (go_at_call 7; refine (HF.out _ HB0.out).mono ?_)
    rintro e v1 ⟨rfl, hb⟩
    have HB1 := Lib.hid hb
    clear hb
    go_wp2_with (go_at_call 7; refine (HF.out _ HB1.out).mono ?_)
    rintro e v2 ⟨rfl, hb⟩
    have HB2 := Lib.hid hb
    clear hb
    go_wp2
    go_ret
    exact ⟨rfl, HB2.out⟩)
set_option maxHeartbeats 2000000 in
theorem once_bad (w : World) (hT : Tabs w) (a b : ByteArray) (ha : (a.size : Int) ≤ 300) (hb : (b.size : Int) ≤ 300) (h : cleanS a = (⟨#[]⟩, 1) ∨ cleanS a = (⟨#[]⟩, 14) ∨ cleanS a = (⟨#[]⟩, 2)) : Calls Tryd.prog 4 #[.string a, .string b] w fun e w' => e = .returned (.bool true) ∧ Below w.heap.size w w' := by
  have HF := Lib.hid (first_on hT)
  have HB0 := Lib.hid (Below.refl w.heap.size w)
  rcases h with h | h | h
  all_goals (
    have HC := Lib.hid (fun v => clean_on hT a (by omega) _ _ h v)
    clear h hT
    go_enter Tryd.func4, Tryd.ntmps4
    go_wp2_with (go_at_call 7; refine (HF.out _ HB0.out).mono ?_)
    rintro e v1 ⟨rfl, hb⟩
    have HB1 := Lib.hid hb
    clear hb
    go_wp2_with (go_at_call 8; refine (HC.out _ HB1.out).mono ?_)
    rintro e v2 ⟨rfl, hb⟩
    have HB2 := Lib.hid hb
    clear hb
    go_wp2
    go_ret
    exact ⟨rfl, HB2.out⟩)
set_option maxHeartbeats 8000000 in
theorem once_no (w : World) (hT : Tabs w) (a b t : ByteArray) (ha : (a.size : Int) ≤ 300) (hb : (b.size : Int) ≤ 300) (hs1 : 1 ≤ (t.size : Int)) (hs64 : (t.size : Int) ≤ 64) (hN : Neat t.data.toList)
    (c1 : cleanS a = (t, 0)) (c2 : cleanS t = (t, 0)) (c3 : cleanS ((⟨#[32, 32]⟩ : ByteArray) ++ a ++ ⟨#[32]⟩) = (t, 0)) (c4 : cleanS b = (⟨#[]⟩, 1) ∨ cleanS b = (⟨#[]⟩, 14) ∨ cleanS b = (⟨#[]⟩, 2)) (y : ByteArray) (k : Int) (c5 : cleanS (a ++ (⟨#[32]⟩ : ByteArray) ++ b) = (y, k)) :
    Calls Tryd.prog 4 #[.string a, .string b] w fun e w' => e = .returned (.bool true) ∧ Below w.heap.size w w' := by
  have HF := Lib.hid (first_on hT)
  have HB0 := Lib.hid (Below.refl w.heap.size w)
  have z0 : ((⟨#[32, 32]⟩ : ByteArray).size : Int) = 2 := rfl
  have z1 : ((⟨#[32]⟩ : ByteArray).size : Int) = 1 := rfl
  have hz2 : (((⟨#[32, 32]⟩ : ByteArray) ++ a).size : Int) ≤ 8388608 := by rw [ByteArray.size_append]; omega
  have hz3 : ((a ++ (⟨#[32]⟩ : ByteArray)).size : Int) ≤ 8388608 := by rw [ByteArray.size_append]; omega
  have hz4 : ((t ++ (⟨#[32]⟩ : ByteArray)).size : Int) ≤ 8388608 := by rw [ByteArray.size_append]; omega
  have HC1 := Lib.hid (fun v => clean_on hT a (by omega) _ _ c1 v)
  have HC2 := Lib.hid (fun v => clean_on hT t (by omega) _ _ c2 v)
  have HC3 := Lib.hid (fun v => clean_on hT _ (by rw [ByteArray.size_append, ByteArray.size_append]; omega) _ _ c3 v)
  have HC5 := Lib.hid (fun v => clean_on hT _ (by rw [ByteArray.size_append, ByteArray.size_append]; omega) _ _ c5 v)
  have HC4 := Lib.hid (fun v r k hr => clean_on hT b (by omega) r k hr v)
  have HD := Lib.hid (fun m hm h => neat_dbl (m := m) hN hm h)
  have H4 := Lib.hid c4
  have HZ := Lib.hid (And.intro hz2 (And.intro hz3 hz4))
  have HNN := Lib.hid hN
  clear hT c1 c2 c3 c4 c5 hN hz2 hz3 hz4 z0 z1
  go_enter Tryd.func4, Tryd.ntmps4
  go_wp2_with (go_at_call 7; refine (HF.out _ HB0.out).mono ?_)
  rintro e v1 ⟨rfl, hb⟩
  have HB1 := Lib.hid hb
  clear hb
  go_wp2_with (go_at_call 8; refine (HC1.out _ HB1.out).mono ?_)
  rintro e v2 ⟨rfl, hb⟩
  have HB2 := Lib.hid hb
  clear hb
  go_wp2_with (go_at_call 8; refine (HC2.out _ HB2.out).mono ?_)
  rintro e v3 ⟨rfl, hb⟩
  have HB3 := Lib.hid hb
  clear hb
  have hz2 := HZ.out.1
  go_wp2_with (go_at_call 8; refine (HC3.out _ HB3.out).mono ?_)
  rintro e v4 ⟨rfl, hb⟩
  have HB4 := Lib.hid hb
  clear hb
  clear hz2
  have hl0 : 0 < t.size := by omega
  have hl1 : t.size - 1 < t.size := by omega
  have hl2 : (0 : Int) ≤ (t.size : Int) - 1 := by omega
  have e0 : ((t[0].toNat : Int) == 32) = false := ne32 (neat_hd HNN.out hl0)
  have e1 : ((t[t.size - 1].toNat : Int) == 32) = false := ne32 (neat_tl HNN.out (by omega))
  go_wp2
  go_loopw [11] (fun i wr => ∃ m : Nat, m + 1 ≤ t.size ∧ i = .int .i64 ((m : Int) + 1) ∧ wr = v4) (fun i _ => t.size - (intOf i).toNat)
  case atStart => exact ⟨0, by omega, rfl, rfl⟩
  case round =>
    obtain ⟨m, hm, rfl, rfl⟩ := hrel
    by_cases hlt : m + 1 < t.size
    · have hltI : (m : Int) + 1 < (t.size : Int) := by omega
      obtain ⟨c, hc⟩ : ∃ c, t[m + 1]'hlt = c := ⟨_, rfl⟩
      obtain ⟨c', hc'⟩ : ∃ c, t[m]'(by omega) = c := ⟨_, rfl⟩
      by_cases u : c' = 32
      · have u1 : ((c.toNat : Int) == 32) = false := ne32 (by rw [← hc]; exact HD.out m hlt (by rw [hc', u]))
        clear u
        go_wp2
        exact ⟨⟨m + 1, by omega, by go_num, trivial⟩, by simp [intOf]; omega⟩
      · have u1 : ((c'.toNat : Int) == 32) = false := ne32 u
        clear u
        by_cases v : ((c.toNat : Int) == 32) = true
        · go_wp2
          exact ⟨⟨m + 1, by omega, by go_num, trivial⟩, by simp [intOf]; omega⟩
        · have v2 : ((c.toNat : Int) == 32) = false := by simpa using v
          clear v
          go_wp2
          exact ⟨⟨m + 1, by omega, by go_num, trivial⟩, by simp [intOf]; omega⟩
    · have hmn : (t.size : Int) ≤ (m : Int) + 1 := by omega
      rcases H4.out with h4 | h4 | h4
      all_goals (
        have q4 := Lib.hid (fun v => HC4.out v _ _ h4)
        clear h4
        go_wp2_with (go_at_call 8; refine (q4.out _ HB4.out).mono ?_)
        rintro e v5 ⟨rfl, hb⟩
        have HB5 := Lib.hid hb
        clear hb
        have hz3 := HZ.out.2.1
        go_wp2_with (go_at_call 8; refine (HC5.out _ HB5.out).mono ?_)
        rintro e v6 ⟨rfl, hb⟩
        have HB6 := Lib.hid hb
        clear hb
        clear hz3
        go_wp2
        go_ret
        exact ⟨rfl, HB6.out⟩)
set_option maxHeartbeats 8000000 in
theorem once_long (w : World) (hT : Tabs w) (a b t : ByteArray) (ha : (a.size : Int) ≤ 300) (hb : (b.size : Int) ≤ 300) (hs1 : 1 ≤ (t.size : Int)) (hs64 : (t.size : Int) ≤ 64) (hN : Neat t.data.toList)
    (c1 : cleanS a = (t, 0)) (c2 : cleanS t = (t, 0)) (c3 : cleanS ((⟨#[32, 32]⟩ : ByteArray) ++ a ++ ⟨#[32]⟩) = (t, 0)) (x : ByteArray) (hx : (x.size : Int) ≤ 64) (c4 : cleanS b = (x, 0)) (hl : (t.size : Int) + 1 + (x.size : Int) > 64) (y : ByteArray) (k : Int) (c5 : cleanS (a ++ (⟨#[32]⟩ : ByteArray) ++ b) = (y, k)) :
    Calls Tryd.prog 4 #[.string a, .string b] w fun e w' => e = .returned (.bool true) ∧ Below w.heap.size w w' := by
  have HF := Lib.hid (first_on hT)
  have HB0 := Lib.hid (Below.refl w.heap.size w)
  have z0 : ((⟨#[32, 32]⟩ : ByteArray).size : Int) = 2 := rfl
  have z1 : ((⟨#[32]⟩ : ByteArray).size : Int) = 1 := rfl
  have hz2 : (((⟨#[32, 32]⟩ : ByteArray) ++ a).size : Int) ≤ 8388608 := by rw [ByteArray.size_append]; omega
  have hz3 : ((a ++ (⟨#[32]⟩ : ByteArray)).size : Int) ≤ 8388608 := by rw [ByteArray.size_append]; omega
  have hz4 : ((t ++ (⟨#[32]⟩ : ByteArray)).size : Int) ≤ 8388608 := by rw [ByteArray.size_append]; omega
  have HC1 := Lib.hid (fun v => clean_on hT a (by omega) _ _ c1 v)
  have HC2 := Lib.hid (fun v => clean_on hT t (by omega) _ _ c2 v)
  have HC3 := Lib.hid (fun v => clean_on hT _ (by rw [ByteArray.size_append, ByteArray.size_append]; omega) _ _ c3 v)
  have HC5 := Lib.hid (fun v => clean_on hT _ (by rw [ByteArray.size_append, ByteArray.size_append]; omega) _ _ c5 v)
  have HC4 := Lib.hid (fun v r k hr => clean_on hT b (by omega) r k hr v)
  have HD := Lib.hid (fun m hm h => neat_dbl (m := m) hN hm h)
  have H4 := Lib.hid c4
  have HZ := Lib.hid (And.intro hz2 (And.intro hz3 hz4))
  have HNN := Lib.hid hN
  clear hT c1 c2 c3 c4 c5 hN hz2 hz3 hz4 z0 z1
  go_enter Tryd.func4, Tryd.ntmps4
  go_wp2_with (go_at_call 7; refine (HF.out _ HB0.out).mono ?_)
  rintro e v1 ⟨rfl, hb⟩
  have HB1 := Lib.hid hb
  clear hb
  go_wp2_with (go_at_call 8; refine (HC1.out _ HB1.out).mono ?_)
  rintro e v2 ⟨rfl, hb⟩
  have HB2 := Lib.hid hb
  clear hb
  go_wp2_with (go_at_call 8; refine (HC2.out _ HB2.out).mono ?_)
  rintro e v3 ⟨rfl, hb⟩
  have HB3 := Lib.hid hb
  clear hb
  have hz2 := HZ.out.1
  go_wp2_with (go_at_call 8; refine (HC3.out _ HB3.out).mono ?_)
  rintro e v4 ⟨rfl, hb⟩
  have HB4 := Lib.hid hb
  clear hb
  clear hz2
  have hl0 : 0 < t.size := by omega
  have hl1 : t.size - 1 < t.size := by omega
  have hl2 : (0 : Int) ≤ (t.size : Int) - 1 := by omega
  have e0 : ((t[0].toNat : Int) == 32) = false := ne32 (neat_hd HNN.out hl0)
  have e1 : ((t[t.size - 1].toNat : Int) == 32) = false := ne32 (neat_tl HNN.out (by omega))
  go_wp2
  go_loopw [11] (fun i wr => ∃ m : Nat, m + 1 ≤ t.size ∧ i = .int .i64 ((m : Int) + 1) ∧ wr = v4) (fun i _ => t.size - (intOf i).toNat)
  case atStart => exact ⟨0, by omega, rfl, rfl⟩
  case round =>
    obtain ⟨m, hm, rfl, rfl⟩ := hrel
    by_cases hlt : m + 1 < t.size
    · have hltI : (m : Int) + 1 < (t.size : Int) := by omega
      obtain ⟨c, hc⟩ : ∃ c, t[m + 1]'hlt = c := ⟨_, rfl⟩
      obtain ⟨c', hc'⟩ : ∃ c, t[m]'(by omega) = c := ⟨_, rfl⟩
      by_cases u : c' = 32
      · have u1 : ((c.toNat : Int) == 32) = false := ne32 (by rw [← hc]; exact HD.out m hlt (by rw [hc', u]))
        clear u
        go_wp2
        exact ⟨⟨m + 1, by omega, by go_num, trivial⟩, by simp [intOf]; omega⟩
      · have u1 : ((c'.toNat : Int) == 32) = false := ne32 u
        clear u
        by_cases v : ((c.toNat : Int) == 32) = true
        · go_wp2
          exact ⟨⟨m + 1, by omega, by go_num, trivial⟩, by simp [intOf]; omega⟩
        · have v2 : ((c.toNat : Int) == 32) = false := by simpa using v
          clear v
          go_wp2
          exact ⟨⟨m + 1, by omega, by go_num, trivial⟩, by simp [intOf]; omega⟩
    · have hmn : (t.size : Int) ≤ (m : Int) + 1 := by omega
      have q4 := Lib.hid (fun v => HC4.out v _ _ H4.out)
      go_wp2_with (go_at_call 8; refine (q4.out _ HB4.out).mono ?_)
      rintro e v5 ⟨rfl, hb⟩
      have HB5 := Lib.hid hb
      clear hb
      have hz3 := HZ.out.2.1
      go_wp2_with (go_at_call 8; refine (HC5.out _ HB5.out).mono ?_)
      rintro e v6 ⟨rfl, hb⟩
      have HB6 := Lib.hid hb
      clear hb
      clear hz3
      go_wp2
      go_ret
      exact ⟨rfl, HB6.out⟩
set_option maxHeartbeats 8000000 in
theorem once_join (w : World) (hT : Tabs w) (a b t : ByteArray) (ha : (a.size : Int) ≤ 300) (hb : (b.size : Int) ≤ 300) (hs1 : 1 ≤ (t.size : Int)) (hs64 : (t.size : Int) ≤ 64) (hN : Neat t.data.toList)
    (c1 : cleanS a = (t, 0)) (c2 : cleanS t = (t, 0)) (c3 : cleanS ((⟨#[32, 32]⟩ : ByteArray) ++ a ++ ⟨#[32]⟩) = (t, 0)) (x : ByteArray) (hx : (x.size : Int) ≤ 64) (c4 : cleanS b = (x, 0)) (hl : (t.size : Int) + 1 + (x.size : Int) ≤ 64) (y : ByteArray) (hy : y = t ++ (⟨#[32]⟩ : ByteArray) ++ x) (c5 : cleanS (a ++ (⟨#[32]⟩ : ByteArray) ++ b) = (y, 0)) :
    Calls Tryd.prog 4 #[.string a, .string b] w fun e w' => e = .returned (.bool true) ∧ Below w.heap.size w w' := by
  have HF := Lib.hid (first_on hT)
  have HB0 := Lib.hid (Below.refl w.heap.size w)
  have z0 : ((⟨#[32, 32]⟩ : ByteArray).size : Int) = 2 := rfl
  have z1 : ((⟨#[32]⟩ : ByteArray).size : Int) = 1 := rfl
  have hz2 : (((⟨#[32, 32]⟩ : ByteArray) ++ a).size : Int) ≤ 8388608 := by rw [ByteArray.size_append]; omega
  have hz3 : ((a ++ (⟨#[32]⟩ : ByteArray)).size : Int) ≤ 8388608 := by rw [ByteArray.size_append]; omega
  have hz4 : ((t ++ (⟨#[32]⟩ : ByteArray)).size : Int) ≤ 8388608 := by rw [ByteArray.size_append]; omega
  have HC1 := Lib.hid (fun v => clean_on hT a (by omega) _ _ c1 v)
  have HC2 := Lib.hid (fun v => clean_on hT t (by omega) _ _ c2 v)
  have HC3 := Lib.hid (fun v => clean_on hT _ (by rw [ByteArray.size_append, ByteArray.size_append]; omega) _ _ c3 v)
  have HC5 := Lib.hid (fun v => clean_on hT _ (by rw [ByteArray.size_append, ByteArray.size_append]; omega) _ _ c5 v)
  have HC4 := Lib.hid (fun v r k hr => clean_on hT b (by omega) r k hr v)
  have HD := Lib.hid (fun m hm h => neat_dbl (m := m) hN hm h)
  have H4 := Lib.hid c4
  have hy2 : (y.toList == (t ++ (⟨#[32]⟩ : ByteArray) ++ x).toList) = true := by rw [hy]; simp
  clear hy
  have HZ := Lib.hid (And.intro hz2 (And.intro hz3 hz4))
  have HNN := Lib.hid hN
  clear hT c1 c2 c3 c4 c5 hN hz2 hz3 hz4 z0 z1
  go_enter Tryd.func4, Tryd.ntmps4
  go_wp2_with (go_at_call 7; refine (HF.out _ HB0.out).mono ?_)
  rintro e v1 ⟨rfl, hb⟩
  have HB1 := Lib.hid hb
  clear hb
  go_wp2_with (go_at_call 8; refine (HC1.out _ HB1.out).mono ?_)
  rintro e v2 ⟨rfl, hb⟩
  have HB2 := Lib.hid hb
  clear hb
  go_wp2_with (go_at_call 8; refine (HC2.out _ HB2.out).mono ?_)
  rintro e v3 ⟨rfl, hb⟩
  have HB3 := Lib.hid hb
  clear hb
  have hz2 := HZ.out.1
  go_wp2_with (go_at_call 8; refine (HC3.out _ HB3.out).mono ?_)
  rintro e v4 ⟨rfl, hb⟩
  have HB4 := Lib.hid hb
  clear hb
  clear hz2
  have hl0 : 0 < t.size := by omega
  have hl1 : t.size - 1 < t.size := by omega
  have hl2 : (0 : Int) ≤ (t.size : Int) - 1 := by omega
  have e0 : ((t[0].toNat : Int) == 32) = false := ne32 (neat_hd HNN.out hl0)
  have e1 : ((t[t.size - 1].toNat : Int) == 32) = false := ne32 (neat_tl HNN.out (by omega))
  go_wp2
  go_loopw [11] (fun i wr => ∃ m : Nat, m + 1 ≤ t.size ∧ i = .int .i64 ((m : Int) + 1) ∧ wr = v4) (fun i _ => t.size - (intOf i).toNat)
  case atStart => exact ⟨0, by omega, rfl, rfl⟩
  case round =>
    obtain ⟨m, hm, rfl, rfl⟩ := hrel
    by_cases hlt : m + 1 < t.size
    · have hltI : (m : Int) + 1 < (t.size : Int) := by omega
      obtain ⟨c, hc⟩ : ∃ c, t[m + 1]'hlt = c := ⟨_, rfl⟩
      obtain ⟨c', hc'⟩ : ∃ c, t[m]'(by omega) = c := ⟨_, rfl⟩
      by_cases u : c' = 32
      · have u1 : ((c.toNat : Int) == 32) = false := ne32 (by rw [← hc]; exact HD.out m hlt (by rw [hc', u]))
        clear u
        go_wp2
        exact ⟨⟨m + 1, by omega, by go_num, trivial⟩, by simp [intOf]; omega⟩
      · have u1 : ((c'.toNat : Int) == 32) = false := ne32 u
        clear u
        by_cases v : ((c.toNat : Int) == 32) = true
        · go_wp2
          exact ⟨⟨m + 1, by omega, by go_num, trivial⟩, by simp [intOf]; omega⟩
        · have v2 : ((c.toNat : Int) == 32) = false := by simpa using v
          clear v
          go_wp2
          exact ⟨⟨m + 1, by omega, by go_num, trivial⟩, by simp [intOf]; omega⟩
    · have hmn : (t.size : Int) ≤ (m : Int) + 1 := by omega
      have q4 := Lib.hid (fun v => HC4.out v _ _ H4.out)
      go_wp2_with (go_at_call 8; refine (q4.out _ HB4.out).mono ?_)
      rintro e v5 ⟨rfl, hb⟩
      have HB5 := Lib.hid hb
      clear hb
      have hz3 := HZ.out.2.1
      go_wp2_with (go_at_call 8; refine (HC5.out _ HB5.out).mono ?_)
      rintro e v6 ⟨rfl, hb⟩
      have HB6 := Lib.hid hb
      clear hb
      clear hz3
      have hz4 := HZ.out.2.2
      go_wp2
      go_ret
      exact ⟨rfl, HB6.out⟩
theorem foldOnce_walk (w : World) (hT : Tabs w) (a : ByteArray) (w0 : a.size ≤ maxLen) (b : ByteArray) (w1 : b.size ≤ maxLen) :
    Calls Tryd.prog 4 #[.string a, .string b] w fun e w' => e = .returned (.bool true) ∧ Below w.heap.size w w' := by
  by_cases hbig : 300 < a.size ∨ 300 < b.size
  · exact once_big w hT a b hbig
  · have ha : (a.size : Int) ≤ 300 := by omega
    have hb : (b.size : Int) ≤ 300 := by omega
    by_cases h0 : (cleanS a).2 = 0
    · obtain ⟨hv, hc, t, hs, ht0, ht1, c1⟩ := clean_ok a h0
      have c2 := clean_twice a t hv hc hs ht0 ht1
      have c3 := clean_blanks a t hv hc hs ht0 ht1
      have hN : Neat t.data.toList := by rw [hs]; exact sq_neat _
      have hs1 : 1 ≤ (t.size : Int) := by
        cases hz : t.size with
        | zero => exact absurd (bs_ext (by rw [bs_size] at hz; rw [List.eq_nil_of_length_eq_zero hz])) ht0
        | succ n => omega
      obtain ⟨y, hy⟩ : ∃ y, (cleanS (a ++ (⟨#[32]⟩ : ByteArray) ++ b)).1 = y := ⟨_, rfl⟩
      obtain ⟨k, hk⟩ : ∃ k, (cleanS (a ++ (⟨#[32]⟩ : ByteArray) ++ b)).2 = k := ⟨_, rfl⟩
      have c5 : cleanS (a ++ (⟨#[32]⟩ : ByteArray) ++ b) = (y, k) := by rw [← hy, ← hk]
      by_cases h1 : (cleanS b).2 = 0
      · obtain ⟨hv2, hc2, x, hs2, hx0, hx1, c4⟩ := clean_ok b h1
        by_cases hl : (t.size : Int) + 1 + (x.size : Int) ≤ 64
        · exact once_join w hT a b t ha hb hs1 ht1 hN c1 c2 c3 x hx1 c4 hl _ rfl (clean_join a b t x hv hc hs ht0 hv2 hc2 hs2 hx0 (by omega))
        · exact once_long w hT a b t ha hb hs1 ht1 hN c1 c2 c3 x hx1 c4 (by omega) y k c5
      · exact once_no w hT a b t ha hb hs1 ht1 hN c1 c2 c3 (cleanOf_bad h1) y k c5
    · exact once_bad w hT a b ha hb (cleanOf_bad h0)
end Go.Proofs.YtbigenlmbomoeaaDoor
