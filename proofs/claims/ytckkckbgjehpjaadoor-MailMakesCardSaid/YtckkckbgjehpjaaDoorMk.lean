/- MailMakes. -/
import Derived.Test.YtckkckbgjehpjaaDoorMa
import Derived.Test.YtckkckbgjehpjaaDoorMj
namespace Go.Proofs.YtckkckbgjehpjaaDoor
open Go.RowKit
open Go.Lib hiding intOf
set_option linter.unusedVariables false
set_option maxRecDepth 100000
theorem mail_join (l d : List UInt8) : mailB (l ++ 64 :: d) = (decide (((l ++ 64 :: d).length : Int) ≤ 64) && localB l && domB d) := by
  by_cases h : (64 : UInt8) ∈ l
  · have h1 : localB l = false := by
      cases hl : localB l with
      | false => rfl
      | true => exact absurd (local_chars hl 64 h) (by decide)
    rw [h1, Bool.and_false, Bool.false_and]
    cases hm : mailB (l ++ 64 :: d) with
    | false => rfl
    | true =>
      have A := mail_parts _ hm
      obtain ⟨p, q, e, hp⟩ := first_at l 64 h
      have e2 : l ++ 64 :: d = p ++ 64 :: (q ++ 64 :: d) := by rw [e]; simp
      have hn := A.nb
      rw [e2, cut_has p _ 64 hp] at hn
      exact absurd (by simp : (64 : UInt8) ∈ q ++ 64 :: d) hn
  · unfold mailB
    rw [cut_has l d 64 h, Bool.true_and]
def anyDot (l : List UInt8) : Bool := l.any (fun c => (c.toNat : Int) == 46)
theorem dot_mem (l : List UInt8) : anyDot l = true ↔ (46 : UInt8) ∈ l := by
  unfold anyDot
  rw [List.any_eq_true]
  constructor
  · rintro ⟨c, hc, h⟩
    have h2 := beq_iff_eq.1 h
    have : c = 46 := byte_of (n := 46) 46 rfl h2
    rw [← this]; exact hc
  · intro h; exact ⟨46, h, rfl⟩
theorem dom_one (a : List UInt8) : domB a = (labsB a && anyDot a) := by
  unfold domB labsB
  by_cases h : (46 : UInt8) ∈ a
  · rw [(dot_mem a).2 h]
    obtain ⟨p, q, e, hp⟩ := first_at a 46 h
    have hl : 2 ≤ ((splitL a).length : Int) := by
      rw [e, split_app p q hp, List.length_cons]
      cases hq : splitL q with
      | nil => exact absurd hq (split_ne q)
      | cons x y => rw [List.length_cons]; omega
    rw [decide_eq_true hl, Bool.true_and, Bool.and_true]
  · have h2 : anyDot a = false := by
      cases hd : anyDot a with
      | false => rfl
      | true => exact absurd ((dot_mem a).1 hd) h
    rw [h2, split_one a h, Bool.and_false]
    rfl
theorem dom_two (a b : List UInt8) : domB (a ++ 46 :: b) = (labsB a && labsB b) := by
  unfold domB labsB
  rw [split_both, List.all_append]
  have hl : 2 ≤ (((splitL a ++ splitL b).length : Nat) : Int) := by
    rw [List.length_append]
    cases ha : splitL a with
    | nil => exact absurd ha (split_ne a)
    | cons x y =>
      cases hb : splitL b with
      | nil => exact absurd hb (split_ne b)
      | cons x y => rw [List.length_cons, List.length_cons]; omega
  rw [decide_eq_true hl, Bool.true_and]
theorem dot_succ (s : ByteArray) (k : Nat) (hk : k < s.size) : anyDot (s.data.toList.take (k + 1)) = (anyDot (s.data.toList.take k) || ((s[k].toNat : Int) == 46)) := by
  unfold anyDot
  rw [List.take_succ_eq_append_getElem (by simpa using hk), List.any_append]
  simp
  rfl
theorem part_on {w : World} (s : ByteArray) (hs : s.size ≤ 1000) (r : Bool) (hr : localB s.data.toList = r) (v : World) (h : Below w.heap.size w v) : Calls Tryd.prog 16 #[.string s] v fun e v' => e = .returned (.bool r) ∧ Below w.heap.size w v' := by
  refine (part_any s hs v).mono ?_
  rintro e v' ⟨rfl, rfl⟩
  exact ⟨by rw [hr], h⟩
theorem label_on {w : World} (s : ByteArray) (hs : s.size ≤ 1000) (r : Bool) (hr : labsB s.data.toList = r) (v : World) (h : Below w.heap.size w v) : Calls Tryd.prog 15 #[.string s] v fun e v' => e = .returned (.bool r) ∧ Below w.heap.size w v' := by
  refine (label_any s hs v).mono ?_
  rintro e v' ⟨rfl, rfl⟩
  exact ⟨by rw [hr], h⟩
set_option maxHeartbeats 2000000 in
theorem makes_big (w : World) (hT : Tabs w) (hM : Mx w) (l a b : ByteArray) (p : Bool) (h : 50 < l.size ∨ 30 < a.size ∨ 30 < b.size) : Calls Tryd.prog 5 #[.string l, .string a, .string b, .bool p] w fun e w' => e = .returned (.bool true) ∧ Below w.heap.size w w' := by
  have HF := Lib.hid (first_on hT hM)
  have HB0 := Lib.hid (Below.refl w.heap.size w)
  clear hT hM
  rcases (show (l.size : Int) > 50 ∨ ((l.size : Int) ≤ 50 ∧ (a.size : Int) > 30) ∨ ((l.size : Int) ≤ 50 ∧ (a.size : Int) ≤ 30 ∧ (b.size : Int) > 30) by omega) with h1 | ⟨h1, h2⟩ | ⟨h1, h2, h3⟩
  all_goals (
    clear h
    go_enter Tryd.func5, Tryd.ntmps5
    go_wp2_with (go_at_call 6; (with_reducible refine (HF.out _ HB0.out).mono ?_); rintro e v1 ⟨rfl, hb⟩; have HB1 := Lib.hid hb; clear hb)
    go_wp2_with (go_at_call 6; (with_reducible refine (HF.out _ HB1.out).mono ?_); rintro e v2 ⟨rfl, hb⟩; have HB2 := Lib.hid hb; clear hb)
    go_wp2
    go_ret
    exact ⟨rfl, HB2.out⟩)
set_option maxHeartbeats 8000000 in
theorem makes_one (w : World) (hT : Tabs w) (hM : Mx w) (l a b : ByteArray) (hl : (l.size : Int) ≤ 50) (ha : (a.size : Int) ≤ 30) (hb : (b.size : Int) ≤ 30) : Calls Tryd.prog 5 #[.string l, .string a, .string b, .bool false] w fun e w' => e = .returned (.bool true) ∧ Below w.heap.size w w' := by
  have HF := Lib.hid (first_on hT hM)
  have HB0 := Lib.hid (Below.refl w.heap.size w)
  obtain ⟨X, hX⟩ : ∃ X : ByteArray, (l ++ (⟨#[64]⟩ : ByteArray)) ++ a = X := ⟨_, rfl⟩
  have hXl : X.data.toList = l.data.toList ++ 64 :: a.data.toList := by rw [← hX, app_list, app_list]; simp
  have hXz : (X.size : Int) ≤ 200 := by
    have y : (⟨#[64]⟩ : ByteArray).size = 1 := rfl
    rw [← hX, ByteArray.size_append, ByteArray.size_append, y]; omega
  have hA4 : ((l ++ (⟨#[64]⟩ : ByteArray)).size : Int) ≤ 51 := by
    have y : (⟨#[64]⟩ : ByteArray).size = 1 := rfl
    rw [ByteArray.size_append, y]; omega
  have z4 : ((⟨#[64]⟩ : ByteArray).size : Int) = 1 := rfl
  have hXn : X.data.toList.length = X.size := by simp
  have hm0 : mailB X.data.toList = (decide ((X.size : Int) ≤ 64) && localB l.data.toList && (labsB a.data.toList && anyDot a.data.toList)) := by
    rw [← hXn, hXl, mail_join, dom_one]
  obtain ⟨m, hm⟩ : ∃ m, mailB X.data.toList = m := ⟨_, rfl⟩
  obtain ⟨pl, hpl⟩ : ∃ m, localB l.data.toList = m := ⟨_, rfl⟩
  obtain ⟨la, hla⟩ : ∃ m, labsB a.data.toList = m := ⟨_, rfl⟩
  obtain ⟨tw, htw⟩ : ∃ m, anyDot a.data.toList = m := ⟨_, rfl⟩
  rw [hm, hpl, hla, htw] at hm0
  have HM0 := Lib.hid hm0
  have HI := Lib.hid (fun v => is_on hT hM X (by omega) m hm v)
  have HP := Lib.hid (fun v => part_on (w := w) l (by omega) pl hpl v)
  have HA := Lib.hid (fun v => label_on (w := w) a (by omega) la hla v)
  have HTW := Lib.hid htw
  clear hT hM hm hpl hla htw hm0 hXn hXl
  have HX := Lib.hid hX
  clear hX
  go_enter Tryd.func5, Tryd.ntmps5
  go_wp2_with (go_at_call 6; (with_reducible refine (HF.out _ HB0.out).mono ?_); rintro e v1 ⟨rfl, hb⟩; have HB1 := Lib.hid hb; clear hb)
  go_wp2
  go_loop [10, 11] (fun t i => ∃ k : Nat, k ≤ a.size ∧ i = .int .i64 (k : Int) ∧ t = .bool (anyDot (a.data.toList.take k))) (fun _ i => a.size - (intOf i).toNat)
  case atStart => exact ⟨0, by omega, rfl, rfl⟩
  case round =>
    obtain ⟨k, hk, rfl, rfl⟩ := hrel
    by_cases hlt : k < a.size
    · have HS := Lib.hid (dot_succ a k hlt)
      obtain ⟨c, hc⟩ : ∃ c, a[k] = c := ⟨_, rfl⟩
      rw [hc] at HS
      have hc8 : (c.toNat : Int) ≤ 255 := by have := c.toNat_lt; omega
      obtain ⟨t, ht⟩ : ∃ t, anyDot (a.data.toList.take k) = t := ⟨_, rfl⟩
      rw [ht] at HS ⊢
      clear ht
      cases t with
      | true =>
        go_wp2
        exact ⟨⟨k + 1, by omega, by go_num, by rw [HS.out]; rfl⟩, by simp [intOf]; omega⟩
      | false =>
        go_wp2
        exact ⟨⟨k + 1, by omega, by go_num, by rw [HS.out]; rfl⟩, by simp [intOf]; omega⟩
    · have hks : k = a.size := by omega
      have hge : ¬ (k : Int) < (a.size : Int) := by omega
      have hX := HX.out
      have hu : anyDot (a.data.toList.take k) = tw := by
        rw [List.take_of_length_le (by simp; omega)]; exact HTW.out
      rw [hu]
      clear hu hks
      by_cases hx : (X.size : Int) ≤ 64
      · rw [decide_eq_true hx] at HM0
        cases pl with
        | false =>
          have H0 := HM0.out
          rw [show (true && false && (la && tw)) = false from rfl] at H0
          subst H0
          clear HM0
          go_wp2_with (go_at_call 16; (with_reducible refine (HP.out _ HB1.out).mono ?_); rintro e v2 ⟨rfl, hb⟩; have HB2 := Lib.hid hb; clear hb)
          go_wp2_with (go_at_call 11; (with_reducible refine (HI.out _ HB2.out).mono ?_); rintro e v3 ⟨rfl, hb⟩; have HB3 := Lib.hid hb; clear hb)
          go_wp2
          go_ret
          exact ⟨rfl, HB3.out⟩
        | true =>
          cases la with
          | false =>
            have H0 := HM0.out
            rw [show (true && true && (false && tw)) = false from rfl] at H0
            subst H0
            clear HM0
            go_wp2_with (go_at_call 16; (with_reducible refine (HP.out _ HB1.out).mono ?_); rintro e v2 ⟨rfl, hb⟩; have HB2 := Lib.hid hb; clear hb)
            go_wp2_with (go_at_call 15; (with_reducible refine (HA.out _ HB2.out).mono ?_); rintro e v3 ⟨rfl, hb⟩; have HB3 := Lib.hid hb; clear hb)
            go_wp2_with (go_at_call 11; (with_reducible refine (HI.out _ HB3.out).mono ?_); rintro e v4 ⟨rfl, hb⟩; have HB4 := Lib.hid hb; clear hb)
            go_wp2
            go_ret
            exact ⟨rfl, HB4.out⟩
          | true =>
            have H0 := HM0.out
            rw [show (true && true && (true && tw)) = tw from rfl] at H0
            subst H0
            clear HM0
            cases m
            all_goals (
              go_wp2_with (go_at_call 16; (with_reducible refine (HP.out _ HB1.out).mono ?_); rintro e v2 ⟨rfl, hb⟩; have HB2 := Lib.hid hb; clear hb)
              go_wp2_with (go_at_call 15; (with_reducible refine (HA.out _ HB2.out).mono ?_); rintro e v3 ⟨rfl, hb⟩; have HB3 := Lib.hid hb; clear hb)
              go_wp2_with (go_at_call 11; (with_reducible refine (HI.out _ HB3.out).mono ?_); rintro e v4 ⟨rfl, hb⟩; have HB4 := Lib.hid hb; clear hb)
              go_wp2
              go_ret
              exact ⟨rfl, HB4.out⟩)
      · rw [decide_eq_false hx] at HM0
        have H0 := HM0.out
        rw [show (false && pl && (la && tw)) = false from rfl] at H0
        subst H0
        clear HM0
        go_wp2_with (go_at_call 11; (with_reducible refine (HI.out _ HB1.out).mono ?_); rintro e v2 ⟨rfl, hb⟩; have HB2 := Lib.hid hb; clear hb)
        go_wp2
        go_ret
        exact ⟨rfl, HB2.out⟩
set_option maxHeartbeats 8000000 in
theorem makes_two (w : World) (hT : Tabs w) (hM : Mx w) (l a b : ByteArray) (hl : (l.size : Int) ≤ 50) (ha : (a.size : Int) ≤ 30) (hb : (b.size : Int) ≤ 30) : Calls Tryd.prog 5 #[.string l, .string a, .string b, .bool true] w fun e w' => e = .returned (.bool true) ∧ Below w.heap.size w w' := by
  have HF := Lib.hid (first_on hT hM)
  have HB0 := Lib.hid (Below.refl w.heap.size w)
  obtain ⟨D, hD⟩ : ∃ D : ByteArray, (a ++ (⟨#[46]⟩ : ByteArray)) ++ b = D := ⟨_, rfl⟩
  have hDl : D.data.toList = a.data.toList ++ 46 :: b.data.toList := by rw [← hD, app_list, app_list]; simp
  have hDz : (D.size : Int) ≤ 61 := by
    have y : (⟨#[46]⟩ : ByteArray).size = 1 := rfl
    rw [← hD, ByteArray.size_append, ByteArray.size_append, y]; omega
  have hA5 : ((a ++ (⟨#[46]⟩ : ByteArray)).size : Int) ≤ 31 := by
    have y : (⟨#[46]⟩ : ByteArray).size = 1 := rfl
    rw [ByteArray.size_append, y]; omega
  have z5 : ((⟨#[46]⟩ : ByteArray).size : Int) = 1 := rfl
  obtain ⟨X, hX⟩ : ∃ X : ByteArray, (l ++ (⟨#[64]⟩ : ByteArray)) ++ D = X := ⟨_, rfl⟩
  have hXl : X.data.toList = l.data.toList ++ 64 :: D.data.toList := by rw [← hX, app_list, app_list]; simp
  have hXz : (X.size : Int) ≤ 200 := by
    have y : (⟨#[64]⟩ : ByteArray).size = 1 := rfl
    rw [← hX, ByteArray.size_append, ByteArray.size_append, y]; omega
  have hA4 : ((l ++ (⟨#[64]⟩ : ByteArray)).size : Int) ≤ 51 := by
    have y : (⟨#[64]⟩ : ByteArray).size = 1 := rfl
    rw [ByteArray.size_append, y]; omega
  have z4 : ((⟨#[64]⟩ : ByteArray).size : Int) = 1 := rfl
  have hXn : X.data.toList.length = X.size := by simp
  have hm0 : mailB X.data.toList = (decide ((X.size : Int) ≤ 64) && localB l.data.toList && (labsB a.data.toList && labsB b.data.toList)) := by
    rw [← hXn, hXl, mail_join, hDl, dom_two]
  obtain ⟨m, hm⟩ : ∃ m, mailB X.data.toList = m := ⟨_, rfl⟩
  obtain ⟨pl, hpl⟩ : ∃ m, localB l.data.toList = m := ⟨_, rfl⟩
  obtain ⟨la, hla⟩ : ∃ m, labsB a.data.toList = m := ⟨_, rfl⟩
  obtain ⟨tw, htw⟩ : ∃ m, labsB b.data.toList = m := ⟨_, rfl⟩
  rw [hm, hpl, hla, htw] at hm0
  have HM0 := Lib.hid hm0
  have HI := Lib.hid (fun v => is_on hT hM X (by omega) m hm v)
  have HP := Lib.hid (fun v => part_on (w := w) l (by omega) pl hpl v)
  have HA := Lib.hid (fun v => label_on (w := w) a (by omega) la hla v)
  have HL := Lib.hid (fun v => label_on (w := w) b (by omega) tw htw v)
  clear hT hM hm hpl hla htw hm0 hXn hXl hDl
  have HX := Lib.hid hX
  clear hX
  go_enter Tryd.func5, Tryd.ntmps5
  go_wp2_with (go_at_call 6; (with_reducible refine (HF.out _ HB0.out).mono ?_); rintro e v1 ⟨rfl, hb⟩; have HB1 := Lib.hid hb; clear hb)
  go_wp2
  go_loop [10, 11] (fun t i => ∃ k : Nat, k ≤ a.size ∧ i = .int .i64 (k : Int) ∧ t = .bool (anyDot (a.data.toList.take k))) (fun _ i => a.size - (intOf i).toNat)
  case atStart => exact ⟨0, by omega, rfl, rfl⟩
  case round =>
    obtain ⟨k, hk, rfl, rfl⟩ := hrel
    by_cases hlt : k < a.size
    · have HS := Lib.hid (dot_succ a k hlt)
      obtain ⟨c, hc⟩ : ∃ c, a[k] = c := ⟨_, rfl⟩
      rw [hc] at HS
      have hc8 : (c.toNat : Int) ≤ 255 := by have := c.toNat_lt; omega
      obtain ⟨t, ht⟩ : ∃ t, anyDot (a.data.toList.take k) = t := ⟨_, rfl⟩
      rw [ht] at HS ⊢
      clear ht
      cases t with
      | true =>
        go_wp2
        exact ⟨⟨k + 1, by omega, by go_num, by rw [HS.out]; rfl⟩, by simp [intOf]; omega⟩
      | false =>
        go_wp2
        exact ⟨⟨k + 1, by omega, by go_num, by rw [HS.out]; rfl⟩, by simp [intOf]; omega⟩
    · have hks : k = a.size := by omega
      have hge : ¬ (k : Int) < (a.size : Int) := by omega
      have hX := HX.out
      obtain ⟨u, hu⟩ : ∃ u, anyDot (a.data.toList.take k) = u := ⟨_, rfl⟩
      rw [hu]
      clear hu hks
      by_cases hx : (X.size : Int) ≤ 64
      · rw [decide_eq_true hx] at HM0
        cases pl with
        | false =>
          have H0 := HM0.out
          rw [show (true && false && (la && tw)) = false from rfl] at H0
          subst H0
          clear HM0
          go_wp2_with (go_at_call 15; (with_reducible refine (HL.out _ HB1.out).mono ?_); rintro e v2 ⟨rfl, hb⟩; have HB2 := Lib.hid hb; clear hb)
          go_wp2_with (go_at_call 16; (with_reducible refine (HP.out _ HB2.out).mono ?_); rintro e v3 ⟨rfl, hb⟩; have HB3 := Lib.hid hb; clear hb)
          go_wp2_with (go_at_call 11; (with_reducible refine (HI.out _ HB3.out).mono ?_); rintro e v4 ⟨rfl, hb⟩; have HB4 := Lib.hid hb; clear hb)
          go_wp2
          go_ret
          exact ⟨rfl, HB4.out⟩
        | true =>
          cases la with
          | false =>
            have H0 := HM0.out
            rw [show (true && true && (false && tw)) = false from rfl] at H0
            subst H0
            clear HM0
            go_wp2_with (go_at_call 15; (with_reducible refine (HL.out _ HB1.out).mono ?_); rintro e v2 ⟨rfl, hb⟩; have HB2 := Lib.hid hb; clear hb)
            go_wp2_with (go_at_call 16; (with_reducible refine (HP.out _ HB2.out).mono ?_); rintro e v3 ⟨rfl, hb⟩; have HB3 := Lib.hid hb; clear hb)
            go_wp2_with (go_at_call 15; (with_reducible refine (HA.out _ HB3.out).mono ?_); rintro e v4 ⟨rfl, hb⟩; have HB4 := Lib.hid hb; clear hb)
            go_wp2_with (go_at_call 11; (with_reducible refine (HI.out _ HB4.out).mono ?_); rintro e v5 ⟨rfl, hb⟩; have HB5 := Lib.hid hb; clear hb)
            go_wp2
            go_ret
            exact ⟨rfl, HB5.out⟩
          | true =>
            have H0 := HM0.out
            rw [show (true && true && (true && tw)) = tw from rfl] at H0
            subst H0
            clear HM0
            cases m
            all_goals (
              go_wp2_with (go_at_call 15; (with_reducible refine (HL.out _ HB1.out).mono ?_); rintro e v2 ⟨rfl, hb⟩; have HB2 := Lib.hid hb; clear hb)
              go_wp2_with (go_at_call 16; (with_reducible refine (HP.out _ HB2.out).mono ?_); rintro e v3 ⟨rfl, hb⟩; have HB3 := Lib.hid hb; clear hb)
              go_wp2_with (go_at_call 15; (with_reducible refine (HA.out _ HB3.out).mono ?_); rintro e v4 ⟨rfl, hb⟩; have HB4 := Lib.hid hb; clear hb)
              go_wp2_with (go_at_call 11; (with_reducible refine (HI.out _ HB4.out).mono ?_); rintro e v5 ⟨rfl, hb⟩; have HB5 := Lib.hid hb; clear hb)
              go_wp2
              go_ret
              exact ⟨rfl, HB5.out⟩)
      · rw [decide_eq_false hx] at HM0
        have H0 := HM0.out
        rw [show (false && pl && (la && tw)) = false from rfl] at H0
        subst H0
        clear HM0
        go_wp2_with (go_at_call 15; (with_reducible refine (HL.out _ HB1.out).mono ?_); rintro e v2 ⟨rfl, hb⟩; have HB2 := Lib.hid hb; clear hb)
        go_wp2_with (go_at_call 11; (with_reducible refine (HI.out _ HB2.out).mono ?_); rintro e v3 ⟨rfl, hb⟩; have HB3 := Lib.hid hb; clear hb)
        go_wp2
        go_ret
        exact ⟨rfl, HB3.out⟩
theorem mailMakes_walk (w : World) (hT : Tabs w) (hM : Mx w) (l : ByteArray) (w0 : l.size ≤ maxLen) (a : ByteArray) (w1 : a.size ≤ maxLen) (b : ByteArray) (w2 : b.size ≤ maxLen) (p : Bool) :
    Calls Tryd.prog 5 #[.string l, .string a, .string b, .bool p] w fun e w' => e = .returned (.bool true) ∧ Below w.heap.size w w' := by
  by_cases hbig : 50 < l.size ∨ 30 < a.size ∨ 30 < b.size
  · exact makes_big w hT hM l a b p hbig
  · cases p with
    | false => exact makes_one w hT hM l a b (by omega) (by omega) (by omega)
    | true => exact makes_two w hT hM l a b (by omega) (by omega) (by omega)
end Go.Proofs.YtckkckbgjehpjaaDoor
