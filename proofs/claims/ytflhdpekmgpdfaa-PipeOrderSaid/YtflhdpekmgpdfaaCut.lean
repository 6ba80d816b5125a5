/- PipeCut: its walk. -/
import Derived.Test.YtflhdpekmgpdfaaPt
namespace Go.Proofs.Ytflhdpekmgpdfaa
open Go.RowKit
set_option linter.unusedVariables false
set_option maxRecDepth 100000
theorem PS.kept {w w' : World} {B R : Nat} {room : Int} {cl : Bool} {l : List UInt8} {g row : Option Nat} (h : PS w B R room cl l g) (hg : w.grownBy w' row) (h1 : some R ≠ row) (h2 : g = none ∨ g ≠ row) : PS w' B R room cl l g := by
  obtain ⟨head, rest, hp, rfl⟩ := h
  exact ⟨head, rest, hp.kept hg h1 h2, rfl⟩
theorem PS.far {w w' : World} {B R R' : Nat} {room : Int} {cl : Bool} {l : List UInt8} {g g' : Option Nat} (h : PS w B R room cl l g) (k : Eff w w' R' g') (h1 : R ≠ R') (h2 : some R ≠ g') (h3 : ∀ j, g = some j → j ≠ R' ∧ some j ≠ g') : PS w' B R room cl l g := by
  obtain ⟨head, rest, ⟨p, v, hb, hp, ho, hv⟩, rfl⟩ := h
  refine ⟨head, rest, ⟨p, v, (k.block R hb.lt h1 h2).trans hb, hp, ⟨ho.1, ?_⟩, hv⟩, rfl⟩
  rcases ho.2 with hn | ⟨j, cap, cur, fz, rfl, hB, hj, r⟩
  · exact .inl hn
  · obtain ⟨q1, q2⟩ := h3 j hv.symm
    exact .inr ⟨j, cap, cur, fz, rfl, hB, (k.block j (Array.getElem?_eq_some_iff.1 hj).1 q1 q2).trans hj, r⟩
/-- Two pipes, neither in the other's way. -/
def Two (w0 w : World) (R1 R2 : Nat) (room : Int) (l1 l2 : List UInt8) : Prop :=
  ∃ B1 B2 g1 g2, PS w B1 R1 room false l1 g1 ∧ PS w B2 R2 room false l2 g2 ∧ R1 ≠ R2 ∧ w0.heap.size ≤ R1 ∧ w0.heap.size ≤ R2 ∧ (∀ j, g1 = some j → j ≠ R2 ∧ some j ≠ g2 ∧ w0.heap.size ≤ j) ∧ (∀ j, g2 = some j → j ≠ R1 ∧ some j ≠ g1 ∧ w0.heap.size ≤ j) ∧ Below w0.heap.size w0 w
theorem Two.swap {w0 w : World} {R1 R2 : Nat} {room : Int} {l1 l2 : List UInt8} (h : Two w0 w R1 R2 room l1 l2) : Two w0 w R2 R1 room l2 l1 := by
  obtain ⟨B1, B2, g1, g2, h1, h2, h3, h4, h5, h6, h7, h8⟩ := h
  exact ⟨B2, B1, g2, g1, h2, h1, h3.symm, h5, h4, h7, h6, h8⟩
theorem Two.step {w0 w w' : World} {R1 R2 : Nat} {room : Int} {l2 l1' : List UInt8} (B1 B2 : Nat) (g1 g2 g1' : Option Nat) (h2 : PS w B2 R2 room false l2 g2) (h3 : R1 ≠ R2) (h4 : w0.heap.size ≤ R1) (h5 : w0.heap.size ≤ R2) (h6 : ∀ j, g1 = some j → j ≠ R2 ∧ some j ≠ g2 ∧ w0.heap.size ≤ j) (h7 : ∀ j, g2 = some j → j ≠ R1 ∧ some j ≠ g1 ∧ w0.heap.size ≤ j) (h8 : Below w0.heap.size w0 w)
    (k1 : PS w' B1 R1 room false l1' g1') (k2 : g1' = g1 ∨ g1' = none) (k3 : Eff w w' R1 g1) : Two w0 w' R1 R2 room l1' l2 := by
  refine ⟨B1, B2, g1', g2, k1, h2.far k3 h3.symm (fun e => (h6 R2 e.symm).1 rfl) (fun j hj => ⟨(h7 j hj).1, (h7 j hj).2.1⟩), h3, h4, h5, ?_, ?_, h8.trans (k3.below h4 (fun j hj => (h6 j hj).2.2) h8.size)⟩
  · intro j hj
    rcases k2 with rfl | rfl
    · exact h6 j hj
    · cases hj
  · intro j hj
    refine ⟨(h7 j hj).1, ?_, (h7 j hj).2.2⟩
    rcases k2 with rfl | rfl
    · exact (h7 j hj).2.1
    · simp
section
variable {w0 w : World} {R1 R2 : Nat} {room : Int} {l1 l2 : List UInt8}
theorem two_look1 (h : Two w0 w R1 R2 room l1 l2) (hs : l1.length ≤ 1000000) : Calls Try.prog 15 #[.pointer (some ⟨R1, 0, none⟩)] w fun e w' => e = .returned (.string ⟨l1.toArray⟩) ∧ Two w0 w' R1 R2 room l1 l2 := by
  obtain ⟨B1, B2, g1, g2, h1, h2, h3, h4, h5, h6, h7, h8⟩ := h
  refine (ps_look h1 hs).mono ?_
  rintro _ w' ⟨rfl, g', q1, q2, q3⟩
  exact ⟨rfl, Two.step B1 B2 g1 g2 g' h2 h3 h4 h5 h6 h7 h8 q1 q2 q3⟩
theorem two_look2 (h : Two w0 w R1 R2 room l1 l2) (hs : l2.length ≤ 1000000) : Calls Try.prog 15 #[.pointer (some ⟨R2, 0, none⟩)] w fun e w' => e = .returned (.string ⟨l2.toArray⟩) ∧ Two w0 w' R1 R2 room l1 l2 :=
  (two_look1 h.swap hs).mono fun _ _ ⟨a, b⟩ => ⟨a, b.swap⟩
theorem two_take1 (h : Two w0 w R1 R2 room l1 l2) (hs : l1.length ≤ 1000000) (n : Int) : Calls Try.prog 12 #[.pointer (some ⟨R1, 0, none⟩), .int .i64 n] w fun e w' => e = .returned (.string ⟨(l1.take n.toNat).toArray⟩) ∧ Two w0 w' R1 R2 room (l1.drop n.toNat) l2 := by
  obtain ⟨B1, B2, g1, g2, h1, h2, h3, h4, h5, h6, h7, h8⟩ := h
  refine (ps_take h1 hs n).mono ?_
  rintro _ w' ⟨rfl, g', q1, q2, q3⟩
  exact ⟨rfl, Two.step B1 B2 g1 g2 g' h2 h3 h4 h5 h6 h7 h8 q1 q2 q3⟩
theorem two_take2 (h : Two w0 w R1 R2 room l1 l2) (hs : l2.length ≤ 1000000) (n : Int) : Calls Try.prog 12 #[.pointer (some ⟨R2, 0, none⟩), .int .i64 n] w fun e w' => e = .returned (.string ⟨(l2.take n.toNat).toArray⟩) ∧ Two w0 w' R1 R2 room l1 (l2.drop n.toNat) :=
  (two_take1 h.swap hs n).mono fun _ _ ⟨a, b⟩ => ⟨a, b.swap⟩
theorem Two.drewN (h : Two w0 w R1 R2 room l1 l2) (n : Nat) : Two w0 (w.drewN n) R1 R2 room l1 l2 := by
  obtain ⟨B1, B2, g1, g2, h1, h2, h3, h4, h5, h6, h7, h8⟩ := h
  exact ⟨B1, B2, g1, g2, h1, h2, h3, h4, h5, h6, h7, below_drewN h8 n⟩
theorem two_len1 (h : Two w0 w R1 R2 room l1 l2) (hs : l1.length ≤ 1000000) : Calls Try.prog 16 #[.pointer (some ⟨R1, 0, none⟩)] w fun e w' => e = .returned (.int .i64 (l1.length : Int)) ∧ Two w0 w' R1 R2 room l1 l2 := by
  obtain ⟨B1, B2, g1, g2, h1, h2, h3, h4, h5, h6, h7, h8⟩ := id h
  refine (ps_len h1 hs).mono ?_
  rintro _ w' ⟨rfl, m, rfl⟩
  exact ⟨rfl, h.drewN m⟩
theorem two_len2 (h : Two w0 w R1 R2 room l1 l2) (hs : l2.length ≤ 1000000) : Calls Try.prog 16 #[.pointer (some ⟨R2, 0, none⟩)] w fun e w' => e = .returned (.int .i64 (l2.length : Int)) ∧ Two w0 w' R1 R2 room l1 l2 :=
  (two_len1 h.swap hs).mono fun _ _ ⟨a, b⟩ => ⟨a, b.swap⟩
theorem two_room1 (h : Two w0 w R1 R2 room l1 l2) (hs : l1.length ≤ 1000000) (hr : 0 ≤ room ∧ room ≤ 9223372036854775807) : Calls Try.prog 17 #[.pointer (some ⟨R1, 0, none⟩)] w fun e w' => e = .returned (.int .i64 (room - (l1.length : Int))) ∧ Two w0 w' R1 R2 room l1 l2 := by
  obtain ⟨B1, B2, g1, g2, h1, h2, h3, h4, h5, h6, h7, h8⟩ := id h
  refine (ps_room h1 hs hr).mono ?_
  rintro _ w' ⟨rfl, m, rfl⟩
  exact ⟨rfl, h.drewN m⟩
theorem two_room2 (h : Two w0 w R1 R2 room l1 l2) (hs : l2.length ≤ 1000000) (hr : 0 ≤ room ∧ room ≤ 9223372036854775807) : Calls Try.prog 17 #[.pointer (some ⟨R2, 0, none⟩)] w fun e w' => e = .returned (.int .i64 (room - (l2.length : Int))) ∧ Two w0 w' R1 R2 room l1 l2 :=
  (two_room1 h.swap hs hr).mono fun _ _ ⟨a, b⟩ => ⟨a, b.swap⟩
end
theorem toArr (l : List UInt8) : ((⟨l.toArray⟩ : ByteArray)).toList = ((⟨l.toArray⟩ : ByteArray)).toList := rfl
set_option maxHeartbeats 4000000 in
theorem cut_go (w0 : World) (s t : ByteArray) (a b : Nat) (hs : s.size ≤ 200) (ht : t.size ≤ 200) (ha : a ≤ 500) (hb : b ≤ 500) :
    Calls Try.prog 5 #[.string s, .string t, .int .i64 (a : Int), .int .i64 (b : Int)] w0 fun e w' => e = .returned (.bool true) ∧ Below w0.heap.size w0 w' := by
  have CF := Lib.hid first_any
  have hs1 : ¬ (s.size : Int) > 200 := by omega
  have ht1 : ¬ (t.size : Int) > 200 := by omega
  have ha1 : ¬ (a : Int) < 0 := by omega
  have hb1 : ¬ (b : Int) < 0 := by omega
  have ha2 : ¬ (a : Int) > 500 := by omega
  have hb2 : ¬ (b : Int) > 500 := by omega
  obtain ⟨m, hm⟩ : ∃ m : Nat, s.size + t.size = m := ⟨_, rfl⟩
  have hmi : (s.size : Int) + (t.size : Int) = (m : Int) := by omega
  have HM := Lib.hid hm
  obtain ⟨L, hL⟩ : ∃ L : List UInt8, L = s.data.toList ++ t.data.toList := ⟨_, rfl⟩
  have HL := Lib.hid hL
  have HLm := Lib.hid (show L.length = m by rw [hL, List.length_append, ← bs_size, ← bs_size, hm])
  have HST := Lib.hid (show (s ++ t).data.toList = L by rw [hL]; simp)
  have HSZ := Lib.hid (show (s ++ t).size = m by rw [bs_size, HST.out, HLm.out])
  have HB := Lib.hid (⟨hs, ht⟩ : s.size ≤ 200 ∧ t.size ≤ 200)
  have hm4 : m ≤ 400 := by omega
  have HX := Lib.hid (show L.take a ++ (L.drop a).take b = L.take (a + b) from (List.take_add ..).symm)
  obtain ⟨X0, hX0⟩ : ∃ X : ByteArray, (⟨L.toArray⟩ : ByteArray) = X := ⟨_, rfl⟩
  obtain ⟨X1, hX1⟩ : ∃ X : ByteArray, (⟨(L.take a).toArray⟩ : ByteArray) = X := ⟨_, rfl⟩
  obtain ⟨X2, hX2⟩ : ∃ X : ByteArray, (⟨((L.drop a).take b).toArray⟩ : ByteArray) = X := ⟨_, rfl⟩
  obtain ⟨X4, hX4⟩ : ∃ X : ByteArray, (⟨(L.drop (a + b)).toArray⟩ : ByteArray) = X := ⟨_, rfl⟩
  have HX3 := Lib.hid (show (⟨(L.take (a + b)).toArray⟩ : ByteArray) = X1 ++ X2 by
    apply bs_ext
    rw [← hX1, ← hX2, ← HX.out]
    simp)
  have hz1 : X1.size ≤ 400 := by
    rw [← hX1, bs_size]
    have := HLm.out
    simp [List.length_take]; omega
  have hz2 : X2.size ≤ 400 := by
    rw [← hX2, bs_size]
    have := HLm.out
    simp [List.length_take]; omega
  have HX0 := Lib.hid hX0
  have HX1 := Lib.hid hX1
  have HX2 := Lib.hid hX2
  have HX4 := Lib.hid hX4
  have HDD := Lib.hid (show (L.drop a).drop b = L.drop (a + b) by rw [List.drop_drop])
  have H0 := Lib.hid (Below.refl w0.heap.size w0)
  clear hm hL hX0 hX1 hX2 hX4
  go_enter Try.func5, Try.ntmps5
  go_wp2_with (first
    | (go_at_call 6; refine (CF.out _).mono ?_; rintro _ w1 ⟨rfl, h1⟩; have H0 := Lib.hid (H0.out.trans (h1.mono H0.out.size)); clear h1)
    | (go_at_call 8
       refine (ps_new _ _).mono ?_
       rintro _ w2 ⟨rfl, h1, h2⟩
       rw [show max ((m : Int)) 0 = (m : Int) by omega] at h1
       have HP2 := Lib.hid h1
       have HG1 := Lib.hid H0.out.size
       have H2 := Lib.hid (H0.out.trans (h2.mono H0.out.size))
       have HL1 := Lib.hid (h1 0).lt
       generalize w1.heap.size = R1 at *
       clear h1 h2)
    | (go_at_call 8
       refine (ps_new _ _).mono ?_
       rintro _ w3 ⟨rfl, h1, h2⟩
       rw [show max ((m : Int)) 0 = (m : Int) by omega] at h1
       have HQ3 := Lib.hid h1
       have HP3 := Lib.hid (fun B => (HP2.out B).kept (row := none) ⟨h2.os, h2.tape, h2.output, h2.size, fun k hk _ => h2.block k hk⟩ (by simp) (.inl rfl))
       have HG2 := Lib.hid H2.out.size
       have HLL := Lib.hid (h1 0).lt
       have H3 := Lib.hid (H2.out.trans (h2.mono H2.out.size))
       generalize w2.heap.size = R2 at *
       clear h1 h2)
    | (go_at_call 10
       refine (ps_put (l := []) (g := none) (HP3.out (R2 + 1)) (by decide) (by omega) s (by have := HB.out; omega) (by have := HLL.out; omega) true (by simp; have := HM.out; omega)).mono ?_
       rintro _ w4 ⟨rfl, g4, h1, h2⟩
       have HP4 := Lib.hid (show PS w4 (R2 + 1) R1 (m : Int) false s.data.toList g4 from h1)
       have HQ4 := Lib.hid (fun B => (HQ3.out B).far h2 (by have := HL1.out; omega) (by simp) (fun j hj => by cases hj))
       have H4 := Lib.hid (H3.out.trans (h2.below HG1.out (fun j hj => by cases hj) H3.out.size))
       have HLL4 := Lib.hid (Nat.lt_of_lt_of_le HLL.out h2.size)
       clear h1 h2 HP3 HQ3 H3)
    | (go_at_call 10
       refine (ps_put HP4.out (by rw [← bs_size]; have := HB.out; omega) (by omega) t (by have := HB.out; omega) (by have := HLL4.out; omega) true (by rw [← bs_size]; simp; have := HM.out; omega)).mono ?_
       rintro _ w5 ⟨rfl, g5, h1, h2⟩
       have HP5 := Lib.hid (show PS w5 (R2 + 1) R1 (m : Int) false L g5 by rw [HL.out]; exact h1)
       have hg4 := HP4.out.row
       have HQ5 := Lib.hid (fun B => (HQ4.out B).far h2 (by have := HL1.out; omega) (fun e => by have := (hg4 R2 e.symm).1; omega) (fun j hj => by cases hj))
       have H5 := Lib.hid (H4.out.trans (h2.below HG1.out (fun j hj => by have := (hg4 j hj).1; have := HG2.out; omega) H4.out.size))
       clear h1 h2 HP4 HQ4 H4 hg4)
    | (go_at_call 10
       refine (ps_put (l := []) (g := none) (HQ5.out w5.heap.size) (by decide) (by omega) (s ++ t) (by rw [HSZ.out]; omega) (Nat.le_refl _) true (by rw [HSZ.out]; simp)).mono ?_
       rintro _ w6 ⟨rfl, g6, h1, h2⟩
       have HT6 := Lib.hid (show Two w0 w6 R1 R2 (m : Int) L L from
         have h1' : PS w6 w5.heap.size R2 (m : Int) false L g6 := by rw [← HST.out]; exact h1
         have hr1 := HP5.out.row
         have hr2 := h1'.row
         have q1 := HL1.out
         have q2 := HG1.out
         have q3 := HP5.out.lt
         ⟨R2 + 1, w5.heap.size, g5, g6, HP5.out.far h2 (by omega) (by simp) (fun j hj => ⟨by have := (hr1 j hj).1; omega, by simp⟩), h1', by omega, q2, by omega,
           fun j hj => ⟨by have := (hr1 j hj).1; omega, fun e => by have := (hr2 j e.symm).1; have := (hr1 j hj).2.1; omega, by have := (hr1 j hj).1; omega⟩,
           fun j hj => ⟨by have := (hr2 j hj).1; omega, fun e => by have := (hr2 j hj).1; have := (hr1 j e.symm).2.1; omega, by have := (hr2 j hj).1; omega⟩,
           H5.out.trans (h2.below (by omega) (fun j hj => by cases hj) H5.out.size)⟩)
       clear h1 h2)
    | (go_at_call 15
       refine (two_look1 HT6.out (by rw [HLm.out]; omega)).mono ?_
       rintro _ w7 ⟨rfl, h1⟩
       rw [HX0.out]
       have HT7 := Lib.hid h1
       clear h1 HT6)
    | (go_at_call 15
       refine (two_look2 HT7.out (by rw [HLm.out]; omega)).mono ?_
       rintro _ w8 ⟨rfl, h1⟩
       rw [HX0.out]
       have HT8 := Lib.hid h1
       clear h1 HT7)
    | (go_at_call 17
       refine (two_room1 HT8.out (by rw [HLm.out]; omega) (by omega)).mono ?_
       rintro _ w9 ⟨rfl, h1⟩
       rw [HLm.out, Int.sub_self]
       have HT9 := Lib.hid h1
       clear h1 HT8)
    | (go_at_call 17
       refine (two_room2 HT9.out (by rw [HLm.out]; omega) (by omega)).mono ?_
       rintro _ w10 ⟨rfl, h1⟩
       rw [HLm.out, Int.sub_self]
       have HT10 := Lib.hid h1
       clear h1 HT9)
    | (go_at_call 12
       refine (two_take1 HT10.out (by rw [HLm.out]; omega) _).mono ?_
       rintro _ w11 ⟨rfl, h1⟩
       rw [Int.toNat_natCast] at h1 ⊢
       rw [HX1.out]
       have HT11 := Lib.hid h1
       clear h1 HT10)
    | (go_at_call 12
       refine (two_take1 HT11.out (by have := HLm.out; rw [List.length_drop]; omega) _).mono ?_
       rintro _ w12 ⟨rfl, h1⟩
       rw [Int.toNat_natCast] at h1 ⊢
       rw [HDD.out] at h1
       rw [HX2.out]
       have HT12 := Lib.hid h1
       clear h1 HT11)
    | (go_at_call 12
       refine (two_take2 HT12.out (by rw [HLm.out]; omega) _).mono ?_
       rintro _ w13 ⟨rfl, h1⟩
       rw [show ((a : Int) + (b : Int)).toNat = a + b by omega] at h1 ⊢
       rw [HX3.out]
       have HT13 := Lib.hid h1
       clear h1 HT12)
    | (go_at_call 15
       refine (two_look1 HT13.out (by have := HLm.out; rw [List.length_drop]; omega)).mono ?_
       rintro _ w14 ⟨rfl, h1⟩
       rw [HX4.out]
       have HT14 := Lib.hid h1
       clear h1 HT13)
    | (go_at_call 15
       refine (two_look2 HT14.out (by have := HLm.out; rw [List.length_drop]; omega)).mono ?_
       rintro _ w15 ⟨rfl, h1⟩
       rw [HX4.out]
       have HT15 := Lib.hid h1
       clear h1 HT14)
    | (go_at_call 16
       refine (two_len1 HT15.out (by have := HLm.out; rw [List.length_drop]; omega)).mono ?_
       rintro _ w16 ⟨rfl, h1⟩
       have HT16 := Lib.hid h1
       clear h1 HT15)
    | (go_at_call 16
       refine (two_len2 HT16.out (by have := HLm.out; rw [List.length_drop]; omega)).mono ?_
       rintro _ w17 ⟨rfl, h1⟩
       have HT17 := Lib.hid h1
       clear h1 HT16)
    | fail)
  go_ret
  obtain ⟨B1, B2, g1, g2, q1, q2, q3, q4, q5, q6, q7, q8⟩ := HT17.out
  exact ⟨rfl, q8⟩
set_option maxHeartbeats 1000000 in
theorem cut_big (w0 : World) (s t : ByteArray) (a b : Int) (h : (s.size : Int) > 200 ∨ (t.size : Int) > 200 ∨ a < 0 ∨ b < 0 ∨ a > 500 ∨ b > 500) :
    Calls Try.prog 5 #[.string s, .string t, .int .i64 a, .int .i64 b] w0 fun e w' => e = .returned (.bool true) ∧ Below w0.heap.size w0 w' := by
  have CF := Lib.hid first_any
  have H0 := Lib.hid (Below.refl w0.heap.size w0)
  by_cases c0 : (s.size : Int) > 200
  · clear h
    go_enter Try.func5, Try.ntmps5
    go_wp2_with (go_at_call 6; refine (CF.out _).mono ?_; rintro _ w1 ⟨rfl, h1⟩; have H0 := Lib.hid (H0.out.trans (h1.mono H0.out.size)); clear h1)
    all_goals (try omega)
    all_goals (try (go_ret; exact ⟨rfl, Hid.out ‹Hid (Below w0.heap.size w0 _)›⟩))
  by_cases c1 : (t.size : Int) > 200
  · clear h
    go_enter Try.func5, Try.ntmps5
    go_wp2_with (go_at_call 6; refine (CF.out _).mono ?_; rintro _ w1 ⟨rfl, h1⟩; have H0 := Lib.hid (H0.out.trans (h1.mono H0.out.size)); clear h1)
    all_goals (try omega)
    all_goals (try (go_ret; exact ⟨rfl, Hid.out ‹Hid (Below w0.heap.size w0 _)›⟩))
  by_cases c2 : a < 0
  · clear h
    go_enter Try.func5, Try.ntmps5
    go_wp2_with (go_at_call 6; refine (CF.out _).mono ?_; rintro _ w1 ⟨rfl, h1⟩; have H0 := Lib.hid (H0.out.trans (h1.mono H0.out.size)); clear h1)
    all_goals (try omega)
    all_goals (try (go_ret; exact ⟨rfl, Hid.out ‹Hid (Below w0.heap.size w0 _)›⟩))
  by_cases c3 : b < 0
  · clear h
    go_enter Try.func5, Try.ntmps5
    go_wp2_with (go_at_call 6; refine (CF.out _).mono ?_; rintro _ w1 ⟨rfl, h1⟩; have H0 := Lib.hid (H0.out.trans (h1.mono H0.out.size)); clear h1)
    all_goals (try omega)
    all_goals (try (go_ret; exact ⟨rfl, Hid.out ‹Hid (Below w0.heap.size w0 _)›⟩))
  by_cases c4 : a > 500
  · clear h
    go_enter Try.func5, Try.ntmps5
    go_wp2_with (go_at_call 6; refine (CF.out _).mono ?_; rintro _ w1 ⟨rfl, h1⟩; have H0 := Lib.hid (H0.out.trans (h1.mono H0.out.size)); clear h1)
    all_goals (try omega)
    all_goals (try (go_ret; exact ⟨rfl, Hid.out ‹Hid (Below w0.heap.size w0 _)›⟩))
  by_cases c5 : b > 500
  · clear h
    go_enter Try.func5, Try.ntmps5
    go_wp2_with (go_at_call 6; refine (CF.out _).mono ?_; rintro _ w1 ⟨rfl, h1⟩; have H0 := Lib.hid (H0.out.trans (h1.mono H0.out.size)); clear h1)
    all_goals (try omega)
    all_goals (try (go_ret; exact ⟨rfl, Hid.out ‹Hid (Below w0.heap.size w0 _)›⟩))
  exfalso; omega
theorem pipeCut_walk (w : World) (s : ByteArray) (hs : s.size ≤ maxLen) (t : ByteArray) (ht : t.size ≤ maxLen) (a : Int) (wa : (Lit.int .i64 a).wf = true) (b : Int) (wb : (Lit.int .i64 b).wf = true) :
    Calls Try.prog 5 #[.string s, .string t, .int .i64 a, .int .i64 b] w fun e w' => e = .returned (.bool true) ∧ Below w.heap.size w w' := by
  by_cases h : (s.size : Int) > 200 ∨ (t.size : Int) > 200 ∨ a < 0 ∨ b < 0 ∨ a > 500 ∨ b > 500
  · exact cut_big w s t a b h
  · obtain ⟨m, rfl⟩ := Int.eq_ofNat_of_zero_le (show 0 ≤ a by omega)
    obtain ⟨n, rfl⟩ := Int.eq_ofNat_of_zero_le (show 0 ≤ b by omega)
    exact cut_go w s t m n (by omega) (by omega) (by omega) (by omega)
end Go.Proofs.Ytflhdpekmgpdfaa
