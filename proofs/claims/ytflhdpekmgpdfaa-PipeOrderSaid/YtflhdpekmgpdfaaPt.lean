/- The pipe's Take. -/
import Derived.Test.YtflhdpekmgpdfaaPm
namespace Go.Proofs.Ytflhdpekmgpdfaa
open Go.RowKit
set_option linter.unusedVariables false
set_option maxRecDepth 20000
section
variable {w : World} {B R : Nat} {room : Int} {cl : Bool} {head : ByteArray} {rest : List UInt8} {g : Option Nat}
theorem take_none (w : World) (R : Nat) (n : Int) (hn : n < 1) : Calls Try.prog 12 #[.pointer (some ⟨R, 0, none⟩), .int .i64 n] w fun e w' => e = .returned (.string ⟨#[]⟩) ∧ w' = w := by
  go_enter Try.func12, Try.ntmps12
  go_wp2
  go_ret
  exact ⟨rfl, rfl⟩
set_option maxHeartbeats 1000000 in
theorem take_head (h : Pip w B R room cl head rest g) (k : Nat) (h1 : 1 ≤ k) (hk : k ≤ head.size) : Calls Try.prog 12 #[.pointer (some ⟨R, 0, none⟩), .int .i64 (k : Int)] w fun e w' => e = .returned (.string (head.extract 0 k)) ∧ Pip w' B R room cl (head.extract k head.size) rest g ∧ Eff w w' R g := by
  obtain ⟨c2, f2⟩ := h.cell2
  have H := Lib.hid h
  have a1 : ¬ (k : Int) < 1 := by omega
  have a2 : ¬ (k : Int) > (head.size : Int) := by omega
  have a3 : (k : Int) ≤ (head.size : Int) := by omega
  clear h
  go_enter Try.func12, Try.ntmps12
  go_wp2
  go_ret
  exact ⟨rfl, H.out.head_ _, (Eff.refl w R g).setCell 2 _⟩
set_option maxHeartbeats 1000000 in
theorem take_past (h : Pip w B R room cl head rest g) (hs : head.size + rest.length ≤ 1000000) (n : Int) (hn : n > (head.size : Int)) (h1 : 1 ≤ n) (k : Nat) (hk : min n (head.size + rest.length : Nat) = (k : Int)) :
    Calls Try.prog 12 #[.pointer (some ⟨R, 0, none⟩), .int .i64 n] w fun e w' => e = .returned (.string ((head ++ ⟨rest.toArray⟩).extract 0 k)) ∧ ∃ g', Pip w' B R room cl ((head ++ ⟨rest.toArray⟩).extract k (head ++ ⟨rest.toArray⟩).size) [] g' ∧ (g' = g ∨ g' = none) ∧ Eff w w' R g := by
  obtain ⟨c2, f2⟩ := h.cell2
  have H := Lib.hid h
  have a1 : ¬ n < 1 := by omega
  have HS := Lib.hid (show (head ++ (⟨rest.toArray⟩ : ByteArray)).size = head.size + rest.length by simp only [bs_size, app_list, List.length_append])
  have HK := Lib.hid hk
  have hlk := look_any h hs
  clear h hk
  generalize hT : head ++ (⟨rest.toArray⟩ : ByteArray) = T at *
  have HL := Lib.hid hlk
  have hkT : (k : Int) ≤ (T.size : Int) := by have := HK.out; have := HS.out; omega
  clear hlk
  by_cases hnT : n ≤ (T.size : Int)
  · have hnk : n = (k : Int) := by have := HK.out; have := HS.out; omega
    subst hnk
    go_enter Try.func12, Try.ntmps12
    go_wp2_with (first
      | (go_at_call 15
         refine HL.out.mono ?_
         rintro _ w2 ⟨rfl, g', h1, h2, h3⟩
         obtain ⟨d2, e2⟩ := h1.cell2
         have H2 := Lib.hid h1
         have HG2 := Lib.hid h2
         have HE := Lib.hid h3
         clear h1 h2 h3)
      | fail)
    go_ret
    exact ⟨rfl, g', H2.out.head_ _, HG2.out, HE.out.setCell 2 _⟩
  · have hnk : (T.size : Int) = (k : Int) := by have := HK.out; have := HS.out; omega
    have hnk2 : T.size = k := by omega
    subst hnk2
    have hm : (T.size : Int) < n := by omega
    go_enter Try.func12, Try.ntmps12
    go_wp2_with (first
      | (go_at_call 15
         refine HL.out.mono ?_
         rintro _ w2 ⟨rfl, g', h1, h2, h3⟩
         obtain ⟨d2, e2⟩ := h1.cell2
         have H2 := Lib.hid h1
         have HG2 := Lib.hid h2
         have HE := Lib.hid h3
         clear h1 h2 h3)
      | fail)
    go_ret
    have hE : T.extract T.size T.size = ByteArray.empty := by
      apply bs_ext
      simp
    have hE0 : T.extract 0 T.size = T := by
      apply bs_ext
      simp
    rw [hE, hE0]
    exact ⟨rfl, g', H2.out.head_ _, HG2.out, HE.out.setCell 2 _⟩
theorem ext_take (a : ByteArray) (k : Nat) : a.extract 0 k = ⟨(a.data.toList.take k).toArray⟩ := by
  apply bs_ext
  simp [ByteArray.data_extract]
theorem ext_drop (a : ByteArray) (k : Nat) : (a.extract k a.size).data.toList = a.data.toList.drop k := by
  simp [ByteArray.data_extract]
  rw [List.take_of_length_le (by simp)]
theorem ps_take {l : List UInt8} (h : PS w B R room cl l g) (hs : l.length ≤ 1000000) (n : Int) : Calls Try.prog 12 #[.pointer (some ⟨R, 0, none⟩), .int .i64 n] w fun e w' => e = .returned (.string ⟨(l.take n.toNat).toArray⟩) ∧ ∃ g', PS w' B R room cl (l.drop n.toNat) g' ∧ (g' = g ∨ g' = none) ∧ Eff w w' R g := by
  by_cases h1 : n < 1
  · refine (take_none w R n h1).mono ?_
    rintro _ w' ⟨rfl, rfl⟩
    have : n.toNat = 0 := by omega
    rw [this]
    exact ⟨rfl, g, h, .inl rfl, Eff.refl _ _ _⟩
  · obtain ⟨head, rest, hp, rfl⟩ := h
    rw [List.length_append, ← bs_size] at hs
    by_cases h2 : n ≤ (head.size : Int)
    · obtain ⟨k, rfl⟩ := Int.eq_ofNat_of_zero_le (show 0 ≤ n by omega)
      have hk : k ≤ head.data.toList.length := by rw [← bs_size]; omega
      refine (take_head hp k (by omega) (by omega)).mono ?_
      rintro _ w' ⟨rfl, q1, q2⟩
      refine ⟨?_, g, ⟨_, _, q1, ?_⟩, .inl rfl, q2⟩
      · rw [ext_take, Int.toNat_natCast, List.take_append_of_le_length hk]
      · rw [ext_drop, Int.toNat_natCast, List.drop_append_of_le_length hk]
    · obtain ⟨k, hk⟩ := Int.eq_ofNat_of_zero_le (show 0 ≤ min n (head.size + rest.length : Nat) by omega)
      refine (take_past hp hs n (by omega) (by omega) k hk).mono ?_
      rintro _ w' ⟨rfl, g', q1, q2, q3⟩
      have hT : (head.data.toList ++ rest).length = head.size + rest.length := by rw [List.length_append, ← bs_size]
      refine ⟨?_, g', ⟨_, [], q1, ?_⟩, q2, q3⟩
      · rw [ext_take, app_list]
        by_cases h3 : n ≤ (head.size + rest.length : Nat)
        · rw [show n.toNat = k by omega]
        · rw [List.take_of_length_le (by omega), List.take_of_length_le (by omega)]
      · rw [ext_drop, app_list, List.append_nil]
        by_cases h3 : n ≤ (head.size + rest.length : Nat)
        · rw [show n.toNat = k by omega]
        · rw [List.drop_of_length_le (by omega), List.drop_of_length_le (by omega)]
theorem ps_put {l : List UInt8} (h : PS w B R room cl l g) (hs : l.length ≤ 1000000) (hr : 0 ≤ room ∧ room ≤ 9223372036854775807) (s : ByteArray) (hsz : s.size ≤ 1000000) (hB : B ≤ w.heap.size) (ok : Bool) (hok : (!cl && decide ((s.size : Int) ≤ room - (l.length : Int))) = ok) :
    Calls Try.prog 10 #[.pointer (some ⟨R, 0, none⟩), .string s] w fun e w' => e = .returned (.bool ok) ∧ ∃ g', PS w' B R room cl (l ++ bif ok then s.data.toList else []) g' ∧ Eff w w' R g := by
  obtain ⟨head, rest, hp, rfl⟩ := h
  rw [List.length_append, ← bs_size] at hs
  have hl : (((head.data.toList ++ rest).length : Nat) : Int) = ((head.size + rest.length : Nat) : Int) := by rw [List.length_append, ← bs_size]
  rw [hl] at hok
  cases cl with
  | true =>
    have : ok = false := by rw [← hok]; rfl
    subst this
    refine (put_closed hp s).mono ?_
    rintro _ w' ⟨rfl, rfl⟩
    exact ⟨rfl, g, ⟨head, rest, hp, by simp⟩, Eff.refl _ _ _⟩
  | false =>
    by_cases hf : (s.size : Int) ≤ room - ((head.size + rest.length : Nat) : Int)
    · have : ok = true := by rw [← hok]; simp only [Bool.not_false, Bool.true_and]; exact decide_eq_true hf
      subst this
      refine (put_yes hp rfl hs hr s hsz hf hB).mono ?_
      rintro _ w' ⟨rfl, g', h1, h2⟩
      exact ⟨rfl, g', ⟨head, _, h1, by simp⟩, h2⟩
    · have : ok = false := by rw [← hok]; simp only [Bool.not_false, Bool.true_and]; exact decide_eq_false hf
      subst this
      refine (put_no hp rfl hs hr s (by omega)).mono ?_
      rintro _ w' ⟨rfl, m, rfl⟩
      exact ⟨rfl, g, ⟨head, rest, hp, by simp⟩, (Eff.refl _ _ _).drewN m⟩
theorem ps_len {l : List UInt8} (h : PS w B R room cl l g) (hs : l.length ≤ 1000000) : Calls Try.prog 16 #[.pointer (some ⟨R, 0, none⟩)] w fun e w' => e = .returned (.int .i64 (l.length : Int)) ∧ ∃ m, w' = w.drewN m := by
  obtain ⟨head, rest, hp, rfl⟩ := h
  exact len_any hp (by rw [List.length_append, ← bs_size]) hs
theorem ps_room {l : List UInt8} (h : PS w B R room cl l g) (hs : l.length ≤ 1000000) (hr : 0 ≤ room ∧ room ≤ 9223372036854775807) : Calls Try.prog 17 #[.pointer (some ⟨R, 0, none⟩)] w fun e w' => e = .returned (.int .i64 (room - (l.length : Int))) ∧ ∃ m, w' = w.drewN m := by
  obtain ⟨head, rest, hp, rfl⟩ := h
  exact room_any hp (by rw [List.length_append, ← bs_size]) hs hr
theorem ps_close {l : List UInt8} (h : PS w B R room cl l g) : Calls Try.prog 14 #[.pointer (some ⟨R, 0, none⟩)] w fun e w' => e = .returned (.tuple #[]) ∧ PS w' B R room true l g ∧ Eff w w' R none := by
  obtain ⟨head, rest, hp, rfl⟩ := h
  refine (close_any hp).mono ?_
  rintro _ w' ⟨rfl, h1, h2⟩
  exact ⟨rfl, ⟨_, _, h1, rfl⟩, h2⟩
theorem ps_closed {l : List UInt8} (h : PS w B R room cl l g) : Calls Try.prog 18 #[.pointer (some ⟨R, 0, none⟩)] w fun e w' => e = .returned (.bool cl) ∧ w' = w := by
  obtain ⟨head, rest, hp, rfl⟩ := h
  exact closed_any hp
theorem ps_new (w : World) (m : Int) : Calls Try.prog 8 #[.int .i64 m] w fun e w' => e = .returned (.pointer (some ⟨w.heap.size, 0, none⟩)) ∧ (∀ B, PS w' B w.heap.size (max m 0) false [] none) ∧ Below w.heap.size w w' := by
  refine (new_any w m).mono ?_
  rintro _ w' ⟨rfl, h1, h2⟩
  exact ⟨rfl, fun B => ⟨_, _, h1 B, rfl⟩, h2⟩
theorem PS.drewN {l : List UInt8} (h : PS w B R room cl l g) (n : Nat) : PS (w.drewN n) B R room cl l g := h
theorem PS.row {l : List UInt8} (h : PS w B R room cl l g) : ∀ j, g = some j → B ≤ j ∧ j < w.heap.size ∧ j ≠ R := by
  obtain ⟨head, rest, hp, rfl⟩ := h
  exact hp.row
theorem PS.lt {l : List UInt8} (h : PS w B R room cl l g) : R < w.heap.size := by
  obtain ⟨head, rest, hp, rfl⟩ := h
  exact hp.lt
set_option maxHeartbeats 2000000 in
theorem first_any (w : World) : Calls Try.prog 6 #[] w fun e w' => e = .returned (.bool true) ∧ Below w.heap.size w w' := by
  go_enter Try.func6, Try.ntmps6
  go_wp2_with (first
    | (go_at_call 8
       refine (ps_new _ 3).mono ?_
       rintro _ w1 ⟨rfl, h1, h2⟩
       have H1 := Lib.hid h1
       have HE1 := Lib.hid h2
       clear h1 h2)
    | (go_at_call 10
       refine (ps_put (g := none) (l := []) (H1.out w.heap.size) (by decide) (by decide) ⟨#[97, 98]⟩ (by decide) HE1.out.size true (by decide)).mono ?_
       rintro _ w2 ⟨rfl, g2, h1, h2⟩
       have H2 := Lib.hid (show PS w2 w.heap.size w.heap.size 3 false [97, 98] g2 from h1)
       have HE2 := Lib.hid (HE1.out.trans (h2.below (Nat.le_refl _) (fun j hj => by cases hj) HE1.out.size))
       clear h1 h2 H1 HE1)
    | (go_at_call 10
       refine (ps_put H2.out (by decide) (by decide) ⟨#[99, 100]⟩ (by decide) HE2.out.size false (by decide)).mono ?_
       rintro _ w3 ⟨rfl, g3, h1, h2⟩
       have H3 := Lib.hid (show PS w3 w.heap.size w.heap.size 3 false [97, 98] g3 from h1)
       have HE3 := Lib.hid (HE2.out.trans (h2.below (Nat.le_refl _) (fun j hj => (H2.out.row j hj).1) HE2.out.size))
       clear h1 h2 H2 HE2)
    | (go_at_call 12
       refine (ps_take H3.out (by decide) 1).mono ?_
       rintro _ w4 ⟨rfl, g4, h1, _, h2⟩
       have H4 := Lib.hid (show PS w4 w.heap.size w.heap.size 3 false [98] g4 from h1)
       have HE4 := Lib.hid (HE3.out.trans (h2.below (Nat.le_refl _) (fun j hj => (H3.out.row j hj).1) HE3.out.size))
       clear h1 h2 H3 HE3)
    | (go_at_call 15
       refine (ps_look H4.out (by decide)).mono ?_
       rintro _ w5 ⟨rfl, g5, h1, _, h2⟩
       have H5 := Lib.hid h1
       have HE5 := Lib.hid (HE4.out.trans (h2.below (Nat.le_refl _) (fun j hj => (H4.out.row j hj).1) HE4.out.size))
       clear h1 h2 H4 HE4)
    | (go_at_call 17
       refine (ps_room H5.out (by decide) (by decide)).mono ?_
       rintro _ w6 ⟨rfl, m, rfl⟩)
    | (go_at_call 18
       refine (ps_closed (H5.out.drewN _)).mono ?_
       rintro _ w7 ⟨rfl, rfl⟩)
    | fail)
  go_ret
  exact ⟨rfl, below_drewN HE5.out _⟩
end
end Go.Proofs.Ytflhdpekmgpdfaa
