/- PipeOrder: its walk. -/
import Derived.Test.YtflhdpekmgpdfaaPla
namespace Go.Proofs.Ytflhdpekmgpdfaa
open Go.RowKit Go.ChangeAt Go.ChangeShapes
set_option linter.unusedVariables false
set_option maxRecDepth 100000
/-- The pipe (block R, its row from B on); nothing that was has turned. -/
def On (w0 w : World) (B R : Nat) (room : Int) (cl : Bool) (X : ByteArray) : Prop :=
  ∃ g, PS w B R room cl X.data.toList g ∧ R < B ∧ B ≤ w.heap.size ∧ w0.heap.size ≤ R ∧ Below w0.heap.size w0 w
section
variable {w0 w : World} {B R : Nat} {room : Int} {cl : Bool} {X : ByteArray}
theorem On.below (h : On w0 w B R room cl X) : Below w0.heap.size w0 w := by
  obtain ⟨g, h1, h4, h6, h7, h9⟩ := h; exact h9
theorem On.drewN (h : On w0 w B R room cl X) (n : Nat) : On w0 (w.drewN n) B R room cl X := by
  obtain ⟨g, h1, h4, h6, h7, h9⟩ := h
  exact ⟨g, h1.drewN n, h4, h6, h7, below_drewN h9 n⟩
theorem On.real {w' : World} {g g' : Option Nat} {cl' : Bool} {X' : ByteArray} (h1 : PS w B R room cl X.data.toList g) (h4 : R < B) (h6 : B ≤ w.heap.size) (h7 : w0.heap.size ≤ R) (h9 : Below w0.heap.size w0 w)
    (k1 : PS w' B R room cl' X'.data.toList g') (k2 : Eff w w' R g) : On w0 w' B R room cl' X' :=
  ⟨g', k1, h4, Nat.le_trans h6 k2.size, h7, h9.trans (k2.below h7 (fun j hj => by have := (h1.row j hj).1; omega) h9.size)⟩
theorem on_put (h : On w0 w B R room cl X) (hs : X.size ≤ 1000000) (hr : 0 ≤ room ∧ room ≤ 9223372036854775807) (s : ByteArray) (hsz : s.size ≤ 1000000) (ok : Bool) (hok : (!cl && decide ((s.size : Int) ≤ room - (X.size : Int))) = ok) :
    Calls Try.prog 10 #[.pointer (some ⟨R, 0, none⟩), .string s] w fun e w' => e = .returned (.bool ok) ∧ On w0 w' B R room cl (bif ok then X ++ s else X) := by
  obtain ⟨g, h1, h4, h6, h7, h9⟩ := h
  refine (ps_put h1 (by rw [← bs_size]; exact hs) hr s hsz h6 ok (by rw [← bs_size]; exact hok)).mono ?_
  rintro _ w' ⟨rfl, g', q1, q2⟩
  refine ⟨rfl, On.real h1 h4 h6 h7 h9 (g' := g') ?_ q2⟩
  cases ok <;> simpa using q1
theorem on_take (h : On w0 w B R room cl X) (hs : X.size ≤ 1000000) (n : Int) (k : Nat) (hk : min (max n 0) (X.size : Int) = (k : Int)) (T Z : ByteArray) (hT : X.extract 0 k = T) (hZ : X.extract k X.size = Z) :
    Calls Try.prog 12 #[.pointer (some ⟨R, 0, none⟩), .int .i64 n] w fun e w' => e = .returned (.string T) ∧ On w0 w' B R room cl Z := by
  obtain ⟨g, h1, h4, h6, h7, h9⟩ := h
  obtain ⟨e1, e2⟩ := take_min X n k hk
  refine (ps_take h1 (by rw [← bs_size]; exact hs) n).mono ?_
  rintro _ w' ⟨rfl, g', q1, q2, q3⟩
  rw [e1, hT]
  rw [e2, hZ] at q1
  exact ⟨rfl, On.real h1 h4 h6 h7 h9 q1 q3⟩
theorem on_close (h : On w0 w B R room cl X) : Calls Try.prog 14 #[.pointer (some ⟨R, 0, none⟩)] w fun e w' => e = .returned (.tuple #[]) ∧ On w0 w' B R room true X := by
  obtain ⟨g, h1, h4, h6, h7, h9⟩ := h
  refine (ps_close h1).mono ?_
  rintro _ w' ⟨rfl, q1, q2⟩
  exact ⟨rfl, On.real h1 h4 h6 h7 h9 q1 q2.weak⟩
theorem on_look (h : On w0 w B R room cl X) (hs : X.size ≤ 1000000) : Calls Try.prog 15 #[.pointer (some ⟨R, 0, none⟩)] w fun e w' => e = .returned (.string X) ∧ On w0 w' B R room cl X := by
  obtain ⟨g, h1, h4, h6, h7, h9⟩ := h
  refine (ps_look h1 (by rw [← bs_size]; exact hs)).mono ?_
  rintro _ w' ⟨rfl, g', q1, q2, q3⟩
  exact ⟨rfl, On.real h1 h4 h6 h7 h9 q1 q3⟩
theorem on_len (h : On w0 w B R room cl X) (hs : X.size ≤ 1000000) : Calls Try.prog 16 #[.pointer (some ⟨R, 0, none⟩)] w fun e w' => e = .returned (.int .i64 (X.size : Int)) ∧ ∃ m, w' = w.drewN m := by
  obtain ⟨g, h1, h4, h6, h7, h9⟩ := h
  refine (ps_len h1 (by rw [← bs_size]; exact hs)).mono ?_
  rintro _ w' ⟨rfl, q1⟩
  exact ⟨by rw [← bs_size], q1⟩
theorem on_closed (h : On w0 w B R room cl X) : Calls Try.prog 18 #[.pointer (some ⟨R, 0, none⟩)] w fun e w' => e = .returned (.bool cl) ∧ w' = w := by
  obtain ⟨g, h1, h4, h6, h7, h9⟩ := h
  exact ps_closed h1
end
/-- What was put (I), what was taken (O), what is there. -/
def Ord (w0 wr : World) (B R : Nat) (room : Int) (k : Nat) (I O : ByteArray) (cl : Bool) : Prop := ∃ X, On w0 wr B R room cl X ∧ O ++ X = I ∧ I.size ≤ 200 * k ∧ (X.size : Int) ≤ room
theorem ext_join (X : ByteArray) (q : Nat) (h : q ≤ X.size) : X.extract 0 q ++ X.extract q X.size = X := by
  apply bs_ext
  rw [ByteArray.data_append, Array.toList_append, ext_drop, ext_take]
  simp
theorem bs_assoc (a b c : ByteArray) : a ++ b ++ c = a ++ (b ++ c) := by
  apply bs_ext
  simp
set_option maxHeartbeats 8000000 in
theorem order_pos (w : World) (a0 : Int) (hp : 0 ≤ a0) (hp2 : a0 ≤ 9223372036854775807) (A : Option Addr) (len cap blk off : Nat) (xs : Nat → Int × Int × ByteArray) (hA : Acts w A len blk off xs) (hcap : len ≤ cap) (hl : len ≤ 80) (hs : ∀ i, i < len → (xs i).2.2.size ≤ 200) :
    Calls Try.prog 4 #[.int .i64 a0, .slice A len cap] w fun e w' => e = .returned (.bool true) ∧ Below w.heap.size w w' := by
  have CF := Lib.hid first_any
  have HA := Lib.hid hA
  have HS := Lib.hid hs
  have HR := Lib.hid (show max a0 0 = a0 by omega)
  have HRR := Lib.hid (show (0 : Int) ≤ a0 ∧ a0 ≤ (9223372036854775807 : Int) by omega)
  have H0 := Lib.hid (Below.refl w.heap.size w)
  clear hA hs
  go_enter Try.func4, Try.ntmps4
  go_wp2_with (first
    | (go_at_call 6; refine (CF.out _).mono ?_; rintro _ w1 ⟨rfl, h1⟩; have H0 := Lib.hid (H0.out.trans (h1.mono H0.out.size)); clear h1)
    | (go_at_call 7; refine (light_yes _ _ _ _ _ _ _ (HA.out.keep H0.out) hl hcap HS.out).mono ?_; rintro _ w2 ⟨rfl, hw2⟩; replace hw2 := hw2.symm; subst hw2)
    | (go_at_call 8
       refine (ps_new _ _).mono ?_
       rintro _ w3 ⟨rfl, h1, h2⟩
       rw [HR.out] at h1
       have HB3 := Lib.hid (show On w w3 w3.heap.size w1.heap.size a0 false ⟨#[]⟩ from
         ⟨none, h1 _, (h1 0).lt, Nat.le_refl _, H0.out.size, H0.out.trans (h2.mono H0.out.size)⟩)
       generalize w1.heap.size = R at *
       generalize w3.heap.size = B at *
       clear h1 h2)
    | fail)
  go_loopw [6, 7, 8, 9] (fun ii oo cc i wr => ∃ (I O : ByteArray) (cl : Bool) (k : Nat), ii = .string I ∧ oo = .string O ∧ cc = .bool cl ∧ k ≤ len ∧ i = .int .i64 (k : Int) ∧ Ord w wr B R a0 k I O cl) (fun _ _ _ i _ => len - (intOf i).toNat)
  case atStart => exact ⟨_, _, _, 0, rfl, rfl, rfl, Nat.zero_le _, rfl, _, HB3.out, rfl, by decide, by have := HRR.out; first | exact this.1 | (show (0 : Int) ≤ _; omega)⟩
  case round =>
    obtain ⟨I, O, cl, k, rfl, rfl, rfl, hk, rfl, X, hbo, hIO, hI, hXr⟩ := hrel
    by_cases hlt : k < len
    · obtain ⟨c1, c2, c3, hm⟩ := (HA.out.keep hbo.below).2 k hlt
      obtain rfl := (HA.out.1 (by omega)).1
      have HC := Lib.hid (fun w' (h : Below w.heap.size w w') => (HA.out.keep h).2 k hlt)
      have hs := HS.out k hlt
      obtain ⟨op, hop⟩ : ∃ op, op = (xs k).1 := ⟨_, rfl⟩
      obtain ⟨n, hn⟩ : ∃ n, n = (xs k).2.1 := ⟨_, rfl⟩
      obtain ⟨s, hs'⟩ : ∃ s, s = (xs k).2.2 := ⟨_, rfl⟩
      rw [← hop] at c1 HC
      rw [← hn] at c2 HC
      rw [← hs'] at c3 hs HC
      clear hop hn hs' hm
      have HB := Lib.hid hbo
      have hXI : O.size + X.size = I.size := by rw [← hIO, ByteArray.size_append]
      have hX2 : X.size ≤ 1000000 := by omega
      have HXI := Lib.hid hXI
      have HIO := Lib.hid hIO
      have HIK := Lib.hid hI
      have HXR := Lib.hid hXr
      clear hbo hI hIO hXr hXI
      by_cases o0 : op = 0
      · subst o0
        cases cl with
        | true =>
          have HCAT := Lib.hid HIO.out
          have HISZ := Lib.hid (show I.size ≤ 200 * (k + 1) by have := HIK.out; omega)
          have HRM := Lib.hid HXR.out
          have hcat : O ++ X = I := HCAT.out
          have hsz : (I.size : Int) - (O.size : Int) = (X.size : Int) := by rw [← HCAT.out, ByteArray.size_append]; omega
          have hno : ¬ (9223372036854775807 < O.size + X.size) := by have := HISZ.out; rw [← HCAT.out, ByteArray.size_append] at this; omega
          have hrm : ¬ ((X.size : Int) > a0) := by have := HRM.out; omega
          have hz6 : X.size ≤ 1000000 := by have := HISZ.out; rw [← HCAT.out, ByteArray.size_append] at this; omega
          go_wp2_with (first
            | (go_at_call 16
               (with_reducible refine (on_len HB.out hX2).mono ?_)
               rintro _ w2 ⟨rfl, m2, rfl⟩
               have HB2 := Lib.hid (HB.out.drewN m2)
               clear HB)
            | (go_at_call 10
               (with_reducible refine (on_put HB2.out hX2 HRR.out s (by omega) false rfl).mono ?_)
               rintro _ w5 ⟨rfl, h1⟩
               have HB5 := Lib.hid (show On w w5 B R _ _ X from h1)
               obtain ⟨e1, e2, e3, _⟩ := HC.out _ h1.below
               clear h1 HB2)
            | (go_at_call 15
               (with_reducible refine (on_look HB5.out hz6).mono ?_)
               rintro _ w6 ⟨rfl, h1⟩
               have HB6 := Lib.hid h1
               clear h1)
            | (go_at_call 16
               (with_reducible refine (on_len HB6.out hz6).mono ?_)
               rintro _ w7 ⟨rfl, m7, rfl⟩)
            | (go_at_call 16
               (with_reducible refine (on_len (HB6.out.drewN _) hz6).mono ?_)
               rintro _ w8 ⟨rfl, m8, rfl⟩)
            | (go_at_call 18
               (with_reducible refine (on_closed (HB6.out.drewN _)).mono ?_)
               rintro _ w9 ⟨rfl, hw9⟩
               replace hw9 := hw9.symm
               subst hw9)
            | fail)
          exact ⟨⟨_, _, _, k + 1, rfl, rfl, rfl, by omega, by go_num, X, HB6.out.drewN _, HCAT.out, HISZ.out, HRM.out⟩, by simp [intOf]; omega⟩
        | false =>
          by_cases hf : (s.size : Int) ≤ a0 - (X.size : Int)
          · obtain ⟨I2, hI2⟩ : ∃ I2, I ++ s = I2 := ⟨_, rfl⟩
            obtain ⟨Z, hZ⟩ : ∃ Z, X ++ s = Z := ⟨_, rfl⟩
            have HOK := Lib.hid (show (!false && decide ((s.size : Int) ≤ a0 - (X.size : Int))) = true by simp only [Bool.not_false, Bool.true_and]; exact decide_eq_true hf)
            have HCAT := Lib.hid (show O ++ Z = I2 by rw [← hZ, ← hI2, ← bs_assoc, HIO.out])
            have HISZ := Lib.hid (show I2.size ≤ 200 * (k + 1) by rw [← hI2, ByteArray.size_append]; have := HIK.out; omega)
            have HRM := Lib.hid (show (Z.size : Int) ≤ a0 by rw [← hZ, ByteArray.size_append]; omega)
            have hii : ¬ (9223372036854775807 < I.size + s.size) := by have := HIK.out; omega
            have HZ := Lib.hid hZ
            clear hZ
            have hcat : O ++ Z = I2 := HCAT.out
            have hsz : (I2.size : Int) - (O.size : Int) = (Z.size : Int) := by rw [← HCAT.out, ByteArray.size_append]; omega
            have hno : ¬ (9223372036854775807 < O.size + Z.size) := by have := HISZ.out; rw [← HCAT.out, ByteArray.size_append] at this; omega
            have hrm : ¬ ((Z.size : Int) > a0) := by have := HRM.out; omega
            have hz6 : Z.size ≤ 1000000 := by have := HISZ.out; rw [← HCAT.out, ByteArray.size_append] at this; omega
            go_wp2_with (first
              | (go_at_call 16
                 (with_reducible refine (on_len HB.out hX2).mono ?_)
                 rintro _ w2 ⟨rfl, m2, rfl⟩
                 have HB2 := Lib.hid (HB.out.drewN m2)
                 clear HB)
              | (go_at_call 10
                 (with_reducible refine (on_put HB2.out hX2 HRR.out s (by omega) true HOK.out).mono ?_)
                 rintro _ w5 ⟨rfl, h1⟩
                 rw [show (bif true then X ++ s else X) = Z from HZ.out] at h1
                 have HB5 := Lib.hid h1
                 obtain ⟨e1, e2, e3, _⟩ := HC.out _ h1.below
                 clear h1 HB2)
              | (go_at_call 15
                 (with_reducible refine (on_look HB5.out hz6).mono ?_)
                 rintro _ w6 ⟨rfl, h1⟩
                 have HB6 := Lib.hid h1
                 clear h1)
              | (go_at_call 16
                 (with_reducible refine (on_len HB6.out hz6).mono ?_)
                 rintro _ w7 ⟨rfl, m7, rfl⟩)
              | (go_at_call 16
                 (with_reducible refine (on_len (HB6.out.drewN _) hz6).mono ?_)
                 rintro _ w8 ⟨rfl, m8, rfl⟩)
              | (go_at_call 18
                 (with_reducible refine (on_closed (HB6.out.drewN _)).mono ?_)
                 rintro _ w9 ⟨rfl, hw9⟩
                 replace hw9 := hw9.symm
                 subst hw9)
              | fail)
            exact ⟨⟨_, _, _, k + 1, rfl, rfl, rfl, by omega, by go_num, Z, HB6.out.drewN _, HCAT.out, HISZ.out, HRM.out⟩, by simp [intOf]; omega⟩
          · have HOK := Lib.hid (show (!false && decide ((s.size : Int) ≤ a0 - (X.size : Int))) = false by simp only [Bool.not_false, Bool.true_and]; exact decide_eq_false hf)
            have HCAT := Lib.hid HIO.out
            have HISZ := Lib.hid (show I.size ≤ 200 * (k + 1) by have := HIK.out; omega)
            have HRM := Lib.hid HXR.out
            have hcat : O ++ X = I := HCAT.out
            have hsz : (I.size : Int) - (O.size : Int) = (X.size : Int) := by rw [← HCAT.out, ByteArray.size_append]; omega
            have hno : ¬ (9223372036854775807 < O.size + X.size) := by have := HISZ.out; rw [← HCAT.out, ByteArray.size_append] at this; omega
            have hrm : ¬ ((X.size : Int) > a0) := by have := HRM.out; omega
            have hz6 : X.size ≤ 1000000 := by have := HISZ.out; rw [← HCAT.out, ByteArray.size_append] at this; omega
            go_wp2_with (first
              | (go_at_call 16
                 (with_reducible refine (on_len HB.out hX2).mono ?_)
                 rintro _ w2 ⟨rfl, m2, rfl⟩
                 have HB2 := Lib.hid (HB.out.drewN m2)
                 clear HB)
              | (go_at_call 10
                 (with_reducible refine (on_put HB2.out hX2 HRR.out s (by omega) false HOK.out).mono ?_)
                 rintro _ w5 ⟨rfl, h1⟩
                 have HB5 := Lib.hid (show On w w5 B R _ _ X from h1)
                 obtain ⟨e1, e2, e3, _⟩ := HC.out _ h1.below
                 clear h1 HB2)
              | (go_at_call 15
                 (with_reducible refine (on_look HB5.out hz6).mono ?_)
                 rintro _ w6 ⟨rfl, h1⟩
                 have HB6 := Lib.hid h1
                 clear h1)
              | (go_at_call 16
                 (with_reducible refine (on_len HB6.out hz6).mono ?_)
                 rintro _ w7 ⟨rfl, m7, rfl⟩)
              | (go_at_call 16
                 (with_reducible refine (on_len (HB6.out.drewN _) hz6).mono ?_)
                 rintro _ w8 ⟨rfl, m8, rfl⟩)
              | (go_at_call 18
                 (with_reducible refine (on_closed (HB6.out.drewN _)).mono ?_)
                 rintro _ w9 ⟨rfl, hw9⟩
                 replace hw9 := hw9.symm
                 subst hw9)
              | fail)
            exact ⟨⟨_, _, _, k + 1, rfl, rfl, rfl, by omega, by go_num, X, HB6.out.drewN _, HCAT.out, HISZ.out, HRM.out⟩, by simp [intOf]; omega⟩
      · by_cases o1 : op = 1
        · subst o1
          obtain ⟨q, hq⟩ := Int.eq_ofNat_of_zero_le (show 0 ≤ min (max n 0) (X.size : Int) by omega)
          obtain ⟨T, hT⟩ : ∃ T, X.extract 0 q = T := ⟨_, rfl⟩
          obtain ⟨Z, hZ⟩ : ∃ Z, X.extract q X.size = Z := ⟨_, rfl⟩
          obtain ⟨O2, hO2⟩ : ∃ O2, O ++ T = O2 := ⟨_, rfl⟩
          have hqX : q ≤ X.size := by omega
          have hTs : T.size = q := by rw [← hT, ByteArray.size_extract]; omega
          have HCAT := Lib.hid (show O2 ++ Z = I by rw [← hO2, ← hT, ← hZ, bs_assoc, ext_join X q hqX, HIO.out])
          have HISZ := Lib.hid (show I.size ≤ 200 * (k + 1) by have := HIK.out; omega)
          have HRM := Lib.hid (show (Z.size : Int) ≤ a0 by rw [← hZ, ByteArray.size_extract]; have := HXR.out; omega)
          have hoo : ¬ (9223372036854775807 < O.size + T.size) := by have := HIK.out; have := HXI.out; omega
          have HZ := Lib.hid hZ
          have HT := Lib.hid hT
          clear hZ hT
          rcases (by omega : (n < 0 ∧ (q : Int) = 0) ∨ (¬ n < 0 ∧ n ≤ (X.size : Int) ∧ (q : Int) = n) ∨ (¬ n < 0 ∧ ¬ n ≤ (X.size : Int) ∧ q = X.size)) with ⟨n0, hq0⟩ | ⟨n0, n1, hq0⟩ | ⟨n0, n1, hq0⟩
          · have HQ := Lib.hid hq
            clear hq
            obtain rfl : q = 0 := by omega
            clear hq0
            have hcat : O2 ++ Z = I := HCAT.out
            have hsz : (I.size : Int) - (O2.size : Int) = (Z.size : Int) := by rw [← HCAT.out, ByteArray.size_append]; omega
            have hno : ¬ (9223372036854775807 < O2.size + Z.size) := by have := HISZ.out; rw [← HCAT.out, ByteArray.size_append] at this; omega
            have hrm : ¬ ((Z.size : Int) > a0) := by have := HRM.out; omega
            have hz6 : Z.size ≤ 1000000 := by have := HISZ.out; rw [← HCAT.out, ByteArray.size_append] at this; omega
            go_wp2_with (first
              | (go_at_call 16
                 (with_reducible refine (on_len HB.out hX2).mono ?_)
                 rintro _ w2 ⟨rfl, m2, rfl⟩
                 have HB2 := Lib.hid (HB.out.drewN m2)
                 clear HB)
              | (go_at_call 12
                 (with_reducible refine (on_take HB2.out hX2 n _ HQ.out T Z HT.out HZ.out).mono ?_)
                 rintro _ w5 ⟨rfl, h1⟩
                 have HB5 := Lib.hid h1
                 obtain ⟨e1, e2, e3, _⟩ := HC.out _ h1.below
                 clear h1 HB2)
              | (go_at_call 15
                 (with_reducible refine (on_look HB5.out hz6).mono ?_)
                 rintro _ w6 ⟨rfl, h1⟩
                 have HB6 := Lib.hid h1
                 clear h1)
              | (go_at_call 16
                 (with_reducible refine (on_len HB6.out hz6).mono ?_)
                 rintro _ w7 ⟨rfl, m7, rfl⟩)
              | (go_at_call 16
                 (with_reducible refine (on_len (HB6.out.drewN _) hz6).mono ?_)
                 rintro _ w8 ⟨rfl, m8, rfl⟩)
              | (go_at_call 18
                 (with_reducible refine (on_closed (HB6.out.drewN _)).mono ?_)
                 rintro _ w9 ⟨rfl, hw9⟩
                 replace hw9 := hw9.symm
                 subst hw9)
              | fail)
            exact ⟨⟨_, _, _, k + 1, rfl, rfl, rfl, by omega, by go_num, Z, HB6.out.drewN _, HCAT.out, HISZ.out, HRM.out⟩, by simp [intOf]; omega⟩
          · have HQ := Lib.hid hq
            clear hq
            subst hq0
            have hcat : O2 ++ Z = I := HCAT.out
            have hsz : (I.size : Int) - (O2.size : Int) = (Z.size : Int) := by rw [← HCAT.out, ByteArray.size_append]; omega
            have hno : ¬ (9223372036854775807 < O2.size + Z.size) := by have := HISZ.out; rw [← HCAT.out, ByteArray.size_append] at this; omega
            have hrm : ¬ ((Z.size : Int) > a0) := by have := HRM.out; omega
            have hz6 : Z.size ≤ 1000000 := by have := HISZ.out; rw [← HCAT.out, ByteArray.size_append] at this; omega
            go_wp2_with (first
              | (go_at_call 16
                 (with_reducible refine (on_len HB.out hX2).mono ?_)
                 rintro _ w2 ⟨rfl, m2, rfl⟩
                 have HB2 := Lib.hid (HB.out.drewN m2)
                 clear HB)
              | (go_at_call 12
                 (with_reducible refine (on_take HB2.out hX2 (q : Int) q HQ.out T Z HT.out HZ.out).mono ?_)
                 rintro _ w5 ⟨rfl, h1⟩
                 have HB5 := Lib.hid h1
                 obtain ⟨e1, e2, e3, _⟩ := HC.out _ h1.below
                 clear h1 HB2)
              | (go_at_call 15
                 (with_reducible refine (on_look HB5.out hz6).mono ?_)
                 rintro _ w6 ⟨rfl, h1⟩
                 have HB6 := Lib.hid h1
                 clear h1)
              | (go_at_call 16
                 (with_reducible refine (on_len HB6.out hz6).mono ?_)
                 rintro _ w7 ⟨rfl, m7, rfl⟩)
              | (go_at_call 16
                 (with_reducible refine (on_len (HB6.out.drewN _) hz6).mono ?_)
                 rintro _ w8 ⟨rfl, m8, rfl⟩)
              | (go_at_call 18
                 (with_reducible refine (on_closed (HB6.out.drewN _)).mono ?_)
                 rintro _ w9 ⟨rfl, hw9⟩
                 replace hw9 := hw9.symm
                 subst hw9)
              | fail)
            exact ⟨⟨_, _, _, k + 1, rfl, rfl, rfl, by omega, by go_num, Z, HB6.out.drewN _, HCAT.out, HISZ.out, HRM.out⟩, by simp [intOf]; omega⟩
          · have HQ := Lib.hid hq
            clear hq
            subst hq0
            have n2 : (X.size : Int) < n := by omega
            have hcat : O2 ++ Z = I := HCAT.out
            have hsz : (I.size : Int) - (O2.size : Int) = (Z.size : Int) := by rw [← HCAT.out, ByteArray.size_append]; omega
            have hno : ¬ (9223372036854775807 < O2.size + Z.size) := by have := HISZ.out; rw [← HCAT.out, ByteArray.size_append] at this; omega
            have hrm : ¬ ((Z.size : Int) > a0) := by have := HRM.out; omega
            have hz6 : Z.size ≤ 1000000 := by have := HISZ.out; rw [← HCAT.out, ByteArray.size_append] at this; omega
            go_wp2_with (first
              | (go_at_call 16
                 (with_reducible refine (on_len HB.out hX2).mono ?_)
                 rintro _ w2 ⟨rfl, m2, rfl⟩
                 have HB2 := Lib.hid (HB.out.drewN m2)
                 clear HB)
              | (go_at_call 12
                 (with_reducible refine (on_take HB2.out hX2 n X.size HQ.out T Z HT.out HZ.out).mono ?_)
                 rintro _ w5 ⟨rfl, h1⟩
                 have HB5 := Lib.hid h1
                 obtain ⟨e1, e2, e3, _⟩ := HC.out _ h1.below
                 clear h1 HB2)
              | (go_at_call 15
                 (with_reducible refine (on_look HB5.out hz6).mono ?_)
                 rintro _ w6 ⟨rfl, h1⟩
                 have HB6 := Lib.hid h1
                 clear h1)
              | (go_at_call 16
                 (with_reducible refine (on_len HB6.out hz6).mono ?_)
                 rintro _ w7 ⟨rfl, m7, rfl⟩)
              | (go_at_call 16
                 (with_reducible refine (on_len (HB6.out.drewN _) hz6).mono ?_)
                 rintro _ w8 ⟨rfl, m8, rfl⟩)
              | (go_at_call 18
                 (with_reducible refine (on_closed (HB6.out.drewN _)).mono ?_)
                 rintro _ w9 ⟨rfl, hw9⟩
                 replace hw9 := hw9.symm
                 subst hw9)
              | fail)
            exact ⟨⟨_, _, _, k + 1, rfl, rfl, rfl, by omega, by go_num, Z, HB6.out.drewN _, HCAT.out, HISZ.out, HRM.out⟩, by simp [intOf]; omega⟩
        · have HCAT := Lib.hid HIO.out
          have HISZ := Lib.hid (show I.size ≤ 200 * (k + 1) by have := HIK.out; omega)
          have HRM := Lib.hid HXR.out
          have hcat : O ++ X = I := HCAT.out
          have hsz : (I.size : Int) - (O.size : Int) = (X.size : Int) := by rw [← HCAT.out, ByteArray.size_append]; omega
          have hno : ¬ (9223372036854775807 < O.size + X.size) := by have := HISZ.out; rw [← HCAT.out, ByteArray.size_append] at this; omega
          have hrm : ¬ ((X.size : Int) > a0) := by have := HRM.out; omega
          have hz6 : X.size ≤ 1000000 := by have := HISZ.out; rw [← HCAT.out, ByteArray.size_append] at this; omega
          by_cases o2 : op = 2
          · subst o2
            go_wp2_with (first
              | (go_at_call 16
                 (with_reducible refine (on_len HB.out hX2).mono ?_)
                 rintro _ w2 ⟨rfl, m2, rfl⟩
                 have HB2 := Lib.hid (HB.out.drewN m2)
                 clear HB)
              | (go_at_call 14
                 (with_reducible refine (on_close HB2.out).mono ?_)
                 rintro _ w5 ⟨rfl, h1⟩
                 have HB5 := Lib.hid h1
                 clear h1 HB2)
              | (go_at_call 15
                 (with_reducible refine (on_look HB5.out hz6).mono ?_)
                 rintro _ w6 ⟨rfl, h1⟩
                 have HB6 := Lib.hid h1
                 clear h1)
              | (go_at_call 16
                 (with_reducible refine (on_len HB6.out hz6).mono ?_)
                 rintro _ w7 ⟨rfl, m7, rfl⟩)
              | (go_at_call 16
                 (with_reducible refine (on_len (HB6.out.drewN _) hz6).mono ?_)
                 rintro _ w8 ⟨rfl, m8, rfl⟩)
              | (go_at_call 18
                 (with_reducible refine (on_closed (HB6.out.drewN _)).mono ?_)
                 rintro _ w9 ⟨rfl, hw9⟩
                 replace hw9 := hw9.symm
                 subst hw9)
              | fail)
            exact ⟨⟨_, _, _, k + 1, rfl, rfl, rfl, by omega, by go_num, X, HB6.out.drewN _, HCAT.out, HISZ.out, HRM.out⟩, by simp [intOf]; omega⟩
          · go_wp2_with (first
              | (go_at_call 16
                 (with_reducible refine (on_len HB.out hX2).mono ?_)
                 rintro _ w2 ⟨rfl, m2, rfl⟩
                 have HB5 := Lib.hid (HB.out.drewN m2)
                 clear HB)
              | (go_at_call 15
                 (with_reducible refine (on_look HB5.out hz6).mono ?_)
                 rintro _ w6 ⟨rfl, h1⟩
                 have HB6 := Lib.hid h1
                 clear h1)
              | (go_at_call 16
                 (with_reducible refine (on_len HB6.out hz6).mono ?_)
                 rintro _ w7 ⟨rfl, m7, rfl⟩)
              | (go_at_call 16
                 (with_reducible refine (on_len (HB6.out.drewN _) hz6).mono ?_)
                 rintro _ w8 ⟨rfl, m8, rfl⟩)
              | (go_at_call 18
                 (with_reducible refine (on_closed (HB6.out.drewN _)).mono ?_)
                 rintro _ w9 ⟨rfl, hw9⟩
                 replace hw9 := hw9.symm
                 subst hw9)
              | fail)
            exact ⟨⟨_, _, _, k + 1, rfl, rfl, rfl, by omega, by go_num, X, HB6.out.drewN _, HCAT.out, HISZ.out, HRM.out⟩, by simp [intOf]; omega⟩
    · have HB := Lib.hid hbo
      clear hbo
      go_wp2
      go_ret
      exact ⟨rfl, HB.out.below⟩
set_option maxHeartbeats 8000000 in
theorem order_neg (w : World) (a0 : Int) (hp : a0 < 0) (A : Option Addr) (len cap blk off : Nat) (xs : Nat → Int × Int × ByteArray) (hA : Acts w A len blk off xs) (hcap : len ≤ cap) (hl : len ≤ 80) (hs : ∀ i, i < len → (xs i).2.2.size ≤ 200) :
    Calls Try.prog 4 #[.int .i64 a0, .slice A len cap] w fun e w' => e = .returned (.bool true) ∧ Below w.heap.size w w' := by
  have CF := Lib.hid first_any
  have HA := Lib.hid hA
  have HS := Lib.hid hs
  have HR := Lib.hid (show max a0 0 = (0 : Int) by omega)
  have HRR := Lib.hid (show (0 : Int) ≤ (0 : Int) ∧ (0 : Int) ≤ (9223372036854775807 : Int) by omega)
  have H0 := Lib.hid (Below.refl w.heap.size w)
  clear hA hs
  go_enter Try.func4, Try.ntmps4
  go_wp2_with (first
    | (go_at_call 6; refine (CF.out _).mono ?_; rintro _ w1 ⟨rfl, h1⟩; have H0 := Lib.hid (H0.out.trans (h1.mono H0.out.size)); clear h1)
    | (go_at_call 7; refine (light_yes _ _ _ _ _ _ _ (HA.out.keep H0.out) hl hcap HS.out).mono ?_; rintro _ w2 ⟨rfl, hw2⟩; replace hw2 := hw2.symm; subst hw2)
    | (go_at_call 8
       refine (ps_new _ _).mono ?_
       rintro _ w3 ⟨rfl, h1, h2⟩
       rw [HR.out] at h1
       have HB3 := Lib.hid (show On w w3 w3.heap.size w1.heap.size (0 : Int) false ⟨#[]⟩ from
         ⟨none, h1 _, (h1 0).lt, Nat.le_refl _, H0.out.size, H0.out.trans (h2.mono H0.out.size)⟩)
       generalize w1.heap.size = R at *
       generalize w3.heap.size = B at *
       clear h1 h2)
    | fail)
  go_loopw [6, 7, 8, 9] (fun ii oo cc i wr => ∃ (I O : ByteArray) (cl : Bool) (k : Nat), ii = .string I ∧ oo = .string O ∧ cc = .bool cl ∧ k ≤ len ∧ i = .int .i64 (k : Int) ∧ Ord w wr B R (0 : Int) k I O cl) (fun _ _ _ i _ => len - (intOf i).toNat)
  case atStart => exact ⟨_, _, _, 0, rfl, rfl, rfl, Nat.zero_le _, rfl, _, HB3.out, rfl, by decide, by have := HRR.out; first | exact this.1 | (show (0 : Int) ≤ _; omega)⟩
  case round =>
    obtain ⟨I, O, cl, k, rfl, rfl, rfl, hk, rfl, X, hbo, hIO, hI, hXr⟩ := hrel
    by_cases hlt : k < len
    · obtain ⟨c1, c2, c3, hm⟩ := (HA.out.keep hbo.below).2 k hlt
      obtain rfl := (HA.out.1 (by omega)).1
      have HC := Lib.hid (fun w' (h : Below w.heap.size w w') => (HA.out.keep h).2 k hlt)
      have hs := HS.out k hlt
      obtain ⟨op, hop⟩ : ∃ op, op = (xs k).1 := ⟨_, rfl⟩
      obtain ⟨n, hn⟩ : ∃ n, n = (xs k).2.1 := ⟨_, rfl⟩
      obtain ⟨s, hs'⟩ : ∃ s, s = (xs k).2.2 := ⟨_, rfl⟩
      rw [← hop] at c1 HC
      rw [← hn] at c2 HC
      rw [← hs'] at c3 hs HC
      clear hop hn hs' hm
      have HB := Lib.hid hbo
      have hXI : O.size + X.size = I.size := by rw [← hIO, ByteArray.size_append]
      have hX2 : X.size ≤ 1000000 := by omega
      have HXI := Lib.hid hXI
      have HIO := Lib.hid hIO
      have HIK := Lib.hid hI
      have HXR := Lib.hid hXr
      clear hbo hI hIO hXr hXI
      by_cases o0 : op = 0
      · subst o0
        cases cl with
        | true =>
          have HCAT := Lib.hid HIO.out
          have HISZ := Lib.hid (show I.size ≤ 200 * (k + 1) by have := HIK.out; omega)
          have HRM := Lib.hid HXR.out
          have hcat : O ++ X = I := HCAT.out
          have hsz : (I.size : Int) - (O.size : Int) = (X.size : Int) := by rw [← HCAT.out, ByteArray.size_append]; omega
          have hno : ¬ (9223372036854775807 < O.size + X.size) := by have := HISZ.out; rw [← HCAT.out, ByteArray.size_append] at this; omega
          have hrm : ¬ (0 < X.size) := by have := HRM.out; omega
          have hz6 : X.size ≤ 1000000 := by have := HISZ.out; rw [← HCAT.out, ByteArray.size_append] at this; omega
          go_wp2_with (first
            | (go_at_call 16
               (with_reducible refine (on_len HB.out hX2).mono ?_)
               rintro _ w2 ⟨rfl, m2, rfl⟩
               have HB2 := Lib.hid (HB.out.drewN m2)
               clear HB)
            | (go_at_call 10
               (with_reducible refine (on_put HB2.out hX2 HRR.out s (by omega) false rfl).mono ?_)
               rintro _ w5 ⟨rfl, h1⟩
               have HB5 := Lib.hid (show On w w5 B R _ _ X from h1)
               obtain ⟨e1, e2, e3, _⟩ := HC.out _ h1.below
               clear h1 HB2)
            | (go_at_call 15
               (with_reducible refine (on_look HB5.out hz6).mono ?_)
               rintro _ w6 ⟨rfl, h1⟩
               have HB6 := Lib.hid h1
               clear h1)
            | (go_at_call 16
               (with_reducible refine (on_len HB6.out hz6).mono ?_)
               rintro _ w7 ⟨rfl, m7, rfl⟩)
            | (go_at_call 16
               (with_reducible refine (on_len (HB6.out.drewN _) hz6).mono ?_)
               rintro _ w8 ⟨rfl, m8, rfl⟩)
            | (go_at_call 18
               (with_reducible refine (on_closed (HB6.out.drewN _)).mono ?_)
               rintro _ w9 ⟨rfl, hw9⟩
               replace hw9 := hw9.symm
               subst hw9)
            | fail)
          exact ⟨⟨_, _, _, k + 1, rfl, rfl, rfl, by omega, by go_num, X, HB6.out.drewN _, HCAT.out, HISZ.out, HRM.out⟩, by simp [intOf]; omega⟩
        | false =>
          by_cases hf : (s.size : Int) ≤ (0 : Int) - (X.size : Int)
          · obtain ⟨I2, hI2⟩ : ∃ I2, I ++ s = I2 := ⟨_, rfl⟩
            obtain ⟨Z, hZ⟩ : ∃ Z, X ++ s = Z := ⟨_, rfl⟩
            have HOK := Lib.hid (show (!false && decide ((s.size : Int) ≤ (0 : Int) - (X.size : Int))) = true by simp only [Bool.not_false, Bool.true_and]; exact decide_eq_true hf)
            have HCAT := Lib.hid (show O ++ Z = I2 by rw [← hZ, ← hI2, ← bs_assoc, HIO.out])
            have HISZ := Lib.hid (show I2.size ≤ 200 * (k + 1) by rw [← hI2, ByteArray.size_append]; have := HIK.out; omega)
            have HRM := Lib.hid (show (Z.size : Int) ≤ (0 : Int) by rw [← hZ, ByteArray.size_append]; omega)
            have hii : ¬ (9223372036854775807 < I.size + s.size) := by have := HIK.out; omega
            have HZ := Lib.hid hZ
            clear hZ
            have hx0 : X.size = 0 := by have := HXR.out; omega
            have hs0 : s.size = 0 := by omega
            have hcat : O ++ Z = I2 := HCAT.out
            have hsz : (I2.size : Int) - (O.size : Int) = (Z.size : Int) := by rw [← HCAT.out, ByteArray.size_append]; omega
            have hno : ¬ (9223372036854775807 < O.size + Z.size) := by have := HISZ.out; rw [← HCAT.out, ByteArray.size_append] at this; omega
            have hrm : ¬ (0 < Z.size) := by have := HRM.out; omega
            have hz6 : Z.size ≤ 1000000 := by have := HISZ.out; rw [← HCAT.out, ByteArray.size_append] at this; omega
            go_wp2_with (first
              | (go_at_call 16
                 (with_reducible refine (on_len HB.out hX2).mono ?_)
                 rintro _ w2 ⟨rfl, m2, rfl⟩
                 have HB2 := Lib.hid (HB.out.drewN m2)
                 clear HB)
              | (go_at_call 10
                 (with_reducible refine (on_put HB2.out hX2 HRR.out s (by omega) true HOK.out).mono ?_)
                 rintro _ w5 ⟨rfl, h1⟩
                 rw [show (bif true then X ++ s else X) = Z from HZ.out] at h1
                 have HB5 := Lib.hid h1
                 obtain ⟨e1, e2, e3, _⟩ := HC.out _ h1.below
                 clear h1 HB2)
              | (go_at_call 15
                 (with_reducible refine (on_look HB5.out hz6).mono ?_)
                 rintro _ w6 ⟨rfl, h1⟩
                 have HB6 := Lib.hid h1
                 clear h1)
              | (go_at_call 16
                 (with_reducible refine (on_len HB6.out hz6).mono ?_)
                 rintro _ w7 ⟨rfl, m7, rfl⟩)
              | (go_at_call 16
                 (with_reducible refine (on_len (HB6.out.drewN _) hz6).mono ?_)
                 rintro _ w8 ⟨rfl, m8, rfl⟩)
              | (go_at_call 18
                 (with_reducible refine (on_closed (HB6.out.drewN _)).mono ?_)
                 rintro _ w9 ⟨rfl, hw9⟩
                 replace hw9 := hw9.symm
                 subst hw9)
              | fail)
            exact ⟨⟨_, _, _, k + 1, rfl, rfl, rfl, by omega, by go_num, Z, HB6.out.drewN _, HCAT.out, HISZ.out, HRM.out⟩, by simp [intOf]; omega⟩
          · have HOK := Lib.hid (show (!false && decide ((s.size : Int) ≤ (0 : Int) - (X.size : Int))) = false by simp only [Bool.not_false, Bool.true_and]; exact decide_eq_false hf)
            have HCAT := Lib.hid HIO.out
            have HISZ := Lib.hid (show I.size ≤ 200 * (k + 1) by have := HIK.out; omega)
            have HRM := Lib.hid HXR.out
            have hcat : O ++ X = I := HCAT.out
            have hsz : (I.size : Int) - (O.size : Int) = (X.size : Int) := by rw [← HCAT.out, ByteArray.size_append]; omega
            have hno : ¬ (9223372036854775807 < O.size + X.size) := by have := HISZ.out; rw [← HCAT.out, ByteArray.size_append] at this; omega
            have hrm : ¬ (0 < X.size) := by have := HRM.out; omega
            have hz6 : X.size ≤ 1000000 := by have := HISZ.out; rw [← HCAT.out, ByteArray.size_append] at this; omega
            go_wp2_with (first
              | (go_at_call 16
                 (with_reducible refine (on_len HB.out hX2).mono ?_)
                 rintro _ w2 ⟨rfl, m2, rfl⟩
                 have HB2 := Lib.hid (HB.out.drewN m2)
                 clear HB)
              | (go_at_call 10
                 (with_reducible refine (on_put HB2.out hX2 HRR.out s (by omega) false HOK.out).mono ?_)
                 rintro _ w5 ⟨rfl, h1⟩
                 have HB5 := Lib.hid (show On w w5 B R _ _ X from h1)
                 obtain ⟨e1, e2, e3, _⟩ := HC.out _ h1.below
                 clear h1 HB2)
              | (go_at_call 15
                 (with_reducible refine (on_look HB5.out hz6).mono ?_)
                 rintro _ w6 ⟨rfl, h1⟩
                 have HB6 := Lib.hid h1
                 clear h1)
              | (go_at_call 16
                 (with_reducible refine (on_len HB6.out hz6).mono ?_)
                 rintro _ w7 ⟨rfl, m7, rfl⟩)
              | (go_at_call 16
                 (with_reducible refine (on_len (HB6.out.drewN _) hz6).mono ?_)
                 rintro _ w8 ⟨rfl, m8, rfl⟩)
              | (go_at_call 18
                 (with_reducible refine (on_closed (HB6.out.drewN _)).mono ?_)
                 rintro _ w9 ⟨rfl, hw9⟩
                 replace hw9 := hw9.symm
                 subst hw9)
              | fail)
            exact ⟨⟨_, _, _, k + 1, rfl, rfl, rfl, by omega, by go_num, X, HB6.out.drewN _, HCAT.out, HISZ.out, HRM.out⟩, by simp [intOf]; omega⟩
      · by_cases o1 : op = 1
        · subst o1
          obtain ⟨q, hq⟩ := Int.eq_ofNat_of_zero_le (show 0 ≤ min (max n 0) (X.size : Int) by omega)
          obtain ⟨T, hT⟩ : ∃ T, X.extract 0 q = T := ⟨_, rfl⟩
          obtain ⟨Z, hZ⟩ : ∃ Z, X.extract q X.size = Z := ⟨_, rfl⟩
          obtain ⟨O2, hO2⟩ : ∃ O2, O ++ T = O2 := ⟨_, rfl⟩
          have hqX : q ≤ X.size := by omega
          have hTs : T.size = q := by rw [← hT, ByteArray.size_extract]; omega
          have HCAT := Lib.hid (show O2 ++ Z = I by rw [← hO2, ← hT, ← hZ, bs_assoc, ext_join X q hqX, HIO.out])
          have HISZ := Lib.hid (show I.size ≤ 200 * (k + 1) by have := HIK.out; omega)
          have HRM := Lib.hid (show (Z.size : Int) ≤ (0 : Int) by rw [← hZ, ByteArray.size_extract]; have := HXR.out; omega)
          have hoo : ¬ (9223372036854775807 < O.size + T.size) := by have := HIK.out; have := HXI.out; omega
          have HZ := Lib.hid hZ
          have HT := Lib.hid hT
          clear hZ hT
          rcases (by omega : (n < 0 ∧ (q : Int) = 0) ∨ (¬ n < 0 ∧ n ≤ (X.size : Int) ∧ (q : Int) = n) ∨ (¬ n < 0 ∧ ¬ n ≤ (X.size : Int) ∧ q = X.size)) with ⟨n0, hq0⟩ | ⟨n0, n1, hq0⟩ | ⟨n0, n1, hq0⟩
          · have HQ := Lib.hid hq
            clear hq
            obtain rfl : q = 0 := by omega
            clear hq0
            have hcat : O2 ++ Z = I := HCAT.out
            have hsz : (I.size : Int) - (O2.size : Int) = (Z.size : Int) := by rw [← HCAT.out, ByteArray.size_append]; omega
            have hno : ¬ (9223372036854775807 < O2.size + Z.size) := by have := HISZ.out; rw [← HCAT.out, ByteArray.size_append] at this; omega
            have hrm : ¬ (0 < Z.size) := by have := HRM.out; omega
            have hz6 : Z.size ≤ 1000000 := by have := HISZ.out; rw [← HCAT.out, ByteArray.size_append] at this; omega
            go_wp2_with (first
              | (go_at_call 16
                 (with_reducible refine (on_len HB.out hX2).mono ?_)
                 rintro _ w2 ⟨rfl, m2, rfl⟩
                 have HB2 := Lib.hid (HB.out.drewN m2)
                 clear HB)
              | (go_at_call 12
                 (with_reducible refine (on_take HB2.out hX2 n _ HQ.out T Z HT.out HZ.out).mono ?_)
                 rintro _ w5 ⟨rfl, h1⟩
                 have HB5 := Lib.hid h1
                 obtain ⟨e1, e2, e3, _⟩ := HC.out _ h1.below
                 clear h1 HB2)
              | (go_at_call 15
                 (with_reducible refine (on_look HB5.out hz6).mono ?_)
                 rintro _ w6 ⟨rfl, h1⟩
                 have HB6 := Lib.hid h1
                 clear h1)
              | (go_at_call 16
                 (with_reducible refine (on_len HB6.out hz6).mono ?_)
                 rintro _ w7 ⟨rfl, m7, rfl⟩)
              | (go_at_call 16
                 (with_reducible refine (on_len (HB6.out.drewN _) hz6).mono ?_)
                 rintro _ w8 ⟨rfl, m8, rfl⟩)
              | (go_at_call 18
                 (with_reducible refine (on_closed (HB6.out.drewN _)).mono ?_)
                 rintro _ w9 ⟨rfl, hw9⟩
                 replace hw9 := hw9.symm
                 subst hw9)
              | fail)
            exact ⟨⟨_, _, _, k + 1, rfl, rfl, rfl, by omega, by go_num, Z, HB6.out.drewN _, HCAT.out, HISZ.out, HRM.out⟩, by simp [intOf]; omega⟩
          · have HQ := Lib.hid hq
            clear hq
            subst hq0
            have hcat : O2 ++ Z = I := HCAT.out
            have hsz : (I.size : Int) - (O2.size : Int) = (Z.size : Int) := by rw [← HCAT.out, ByteArray.size_append]; omega
            have hno : ¬ (9223372036854775807 < O2.size + Z.size) := by have := HISZ.out; rw [← HCAT.out, ByteArray.size_append] at this; omega
            have hrm : ¬ (0 < Z.size) := by have := HRM.out; omega
            have hz6 : Z.size ≤ 1000000 := by have := HISZ.out; rw [← HCAT.out, ByteArray.size_append] at this; omega
            go_wp2_with (first
              | (go_at_call 16
                 (with_reducible refine (on_len HB.out hX2).mono ?_)
                 rintro _ w2 ⟨rfl, m2, rfl⟩
                 have HB2 := Lib.hid (HB.out.drewN m2)
                 clear HB)
              | (go_at_call 12
                 (with_reducible refine (on_take HB2.out hX2 (q : Int) q HQ.out T Z HT.out HZ.out).mono ?_)
                 rintro _ w5 ⟨rfl, h1⟩
                 have HB5 := Lib.hid h1
                 obtain ⟨e1, e2, e3, _⟩ := HC.out _ h1.below
                 clear h1 HB2)
              | (go_at_call 15
                 (with_reducible refine (on_look HB5.out hz6).mono ?_)
                 rintro _ w6 ⟨rfl, h1⟩
                 have HB6 := Lib.hid h1
                 clear h1)
              | (go_at_call 16
                 (with_reducible refine (on_len HB6.out hz6).mono ?_)
                 rintro _ w7 ⟨rfl, m7, rfl⟩)
              | (go_at_call 16
                 (with_reducible refine (on_len (HB6.out.drewN _) hz6).mono ?_)
                 rintro _ w8 ⟨rfl, m8, rfl⟩)
              | (go_at_call 18
                 (with_reducible refine (on_closed (HB6.out.drewN _)).mono ?_)
                 rintro _ w9 ⟨rfl, hw9⟩
                 replace hw9 := hw9.symm
                 subst hw9)
              | fail)
            exact ⟨⟨_, _, _, k + 1, rfl, rfl, rfl, by omega, by go_num, Z, HB6.out.drewN _, HCAT.out, HISZ.out, HRM.out⟩, by simp [intOf]; omega⟩
          · have HQ := Lib.hid hq
            clear hq
            subst hq0
            have n2 : (X.size : Int) < n := by omega
            have hcat : O2 ++ Z = I := HCAT.out
            have hsz : (I.size : Int) - (O2.size : Int) = (Z.size : Int) := by rw [← HCAT.out, ByteArray.size_append]; omega
            have hno : ¬ (9223372036854775807 < O2.size + Z.size) := by have := HISZ.out; rw [← HCAT.out, ByteArray.size_append] at this; omega
            have hrm : ¬ (0 < Z.size) := by have := HRM.out; omega
            have hz6 : Z.size ≤ 1000000 := by have := HISZ.out; rw [← HCAT.out, ByteArray.size_append] at this; omega
            go_wp2_with (first
              | (go_at_call 16
                 (with_reducible refine (on_len HB.out hX2).mono ?_)
                 rintro _ w2 ⟨rfl, m2, rfl⟩
                 have HB2 := Lib.hid (HB.out.drewN m2)
                 clear HB)
              | (go_at_call 12
                 (with_reducible refine (on_take HB2.out hX2 n X.size HQ.out T Z HT.out HZ.out).mono ?_)
                 rintro _ w5 ⟨rfl, h1⟩
                 have HB5 := Lib.hid h1
                 obtain ⟨e1, e2, e3, _⟩ := HC.out _ h1.below
                 clear h1 HB2)
              | (go_at_call 15
                 (with_reducible refine (on_look HB5.out hz6).mono ?_)
                 rintro _ w6 ⟨rfl, h1⟩
                 have HB6 := Lib.hid h1
                 clear h1)
              | (go_at_call 16
                 (with_reducible refine (on_len HB6.out hz6).mono ?_)
                 rintro _ w7 ⟨rfl, m7, rfl⟩)
              | (go_at_call 16
                 (with_reducible refine (on_len (HB6.out.drewN _) hz6).mono ?_)
                 rintro _ w8 ⟨rfl, m8, rfl⟩)
              | (go_at_call 18
                 (with_reducible refine (on_closed (HB6.out.drewN _)).mono ?_)
                 rintro _ w9 ⟨rfl, hw9⟩
                 replace hw9 := hw9.symm
                 subst hw9)
              | fail)
            exact ⟨⟨_, _, _, k + 1, rfl, rfl, rfl, by omega, by go_num, Z, HB6.out.drewN _, HCAT.out, HISZ.out, HRM.out⟩, by simp [intOf]; omega⟩
        · have HCAT := Lib.hid HIO.out
          have HISZ := Lib.hid (show I.size ≤ 200 * (k + 1) by have := HIK.out; omega)
          have HRM := Lib.hid HXR.out
          have hcat : O ++ X = I := HCAT.out
          have hsz : (I.size : Int) - (O.size : Int) = (X.size : Int) := by rw [← HCAT.out, ByteArray.size_append]; omega
          have hno : ¬ (9223372036854775807 < O.size + X.size) := by have := HISZ.out; rw [← HCAT.out, ByteArray.size_append] at this; omega
          have hrm : ¬ (0 < X.size) := by have := HRM.out; omega
          have hz6 : X.size ≤ 1000000 := by have := HISZ.out; rw [← HCAT.out, ByteArray.size_append] at this; omega
          by_cases o2 : op = 2
          · subst o2
            go_wp2_with (first
              | (go_at_call 16
                 (with_reducible refine (on_len HB.out hX2).mono ?_)
                 rintro _ w2 ⟨rfl, m2, rfl⟩
                 have HB2 := Lib.hid (HB.out.drewN m2)
                 clear HB)
              | (go_at_call 14
                 (with_reducible refine (on_close HB2.out).mono ?_)
                 rintro _ w5 ⟨rfl, h1⟩
                 have HB5 := Lib.hid h1
                 clear h1 HB2)
              | (go_at_call 15
                 (with_reducible refine (on_look HB5.out hz6).mono ?_)
                 rintro _ w6 ⟨rfl, h1⟩
                 have HB6 := Lib.hid h1
                 clear h1)
              | (go_at_call 16
                 (with_reducible refine (on_len HB6.out hz6).mono ?_)
                 rintro _ w7 ⟨rfl, m7, rfl⟩)
              | (go_at_call 16
                 (with_reducible refine (on_len (HB6.out.drewN _) hz6).mono ?_)
                 rintro _ w8 ⟨rfl, m8, rfl⟩)
              | (go_at_call 18
                 (with_reducible refine (on_closed (HB6.out.drewN _)).mono ?_)
                 rintro _ w9 ⟨rfl, hw9⟩
                 replace hw9 := hw9.symm
                 subst hw9)
              | fail)
            exact ⟨⟨_, _, _, k + 1, rfl, rfl, rfl, by omega, by go_num, X, HB6.out.drewN _, HCAT.out, HISZ.out, HRM.out⟩, by simp [intOf]; omega⟩
          · go_wp2_with (first
              | (go_at_call 16
                 (with_reducible refine (on_len HB.out hX2).mono ?_)
                 rintro _ w2 ⟨rfl, m2, rfl⟩
                 have HB5 := Lib.hid (HB.out.drewN m2)
                 clear HB)
              | (go_at_call 15
                 (with_reducible refine (on_look HB5.out hz6).mono ?_)
                 rintro _ w6 ⟨rfl, h1⟩
                 have HB6 := Lib.hid h1
                 clear h1)
              | (go_at_call 16
                 (with_reducible refine (on_len HB6.out hz6).mono ?_)
                 rintro _ w7 ⟨rfl, m7, rfl⟩)
              | (go_at_call 16
                 (with_reducible refine (on_len (HB6.out.drewN _) hz6).mono ?_)
                 rintro _ w8 ⟨rfl, m8, rfl⟩)
              | (go_at_call 18
                 (with_reducible refine (on_closed (HB6.out.drewN _)).mono ?_)
                 rintro _ w9 ⟨rfl, hw9⟩
                 replace hw9 := hw9.symm
                 subst hw9)
              | fail)
            exact ⟨⟨_, _, _, k + 1, rfl, rfl, rfl, by omega, by go_num, X, HB6.out.drewN _, HCAT.out, HISZ.out, HRM.out⟩, by simp [intOf]; omega⟩
    · have HB := Lib.hid hbo
      clear hbo
      go_wp2
      go_ret
      exact ⟨rfl, HB.out.below⟩
theorem order_dark (w : World) (a0 : Int) (A : Option Addr) (len cap : Nat) (hno : ∀ w', Below w.heap.size w w' → Calls Try.prog 7 #[.slice A len cap] w' fun e w2 => e = .returned (.bool false) ∧ w2 = w') :
    Calls Try.prog 4 #[.int .i64 a0, .slice A len cap] w fun e w' => e = .returned (.bool true) ∧ Below w.heap.size w w' := by
  have CF := Lib.hid first_any
  have HN := Lib.hid hno
  have H0 := Lib.hid (Below.refl w.heap.size w)
  clear hno
  go_enter Try.func4, Try.ntmps4
  go_wp2_with (first
    | (go_at_call 6; refine (CF.out _).mono ?_; rintro _ w1 ⟨rfl, h1⟩; have H0 := Lib.hid (H0.out.trans (h1.mono H0.out.size)); clear h1)
    | (go_at_call 7; refine (HN.out _ H0.out).mono ?_; rintro _ w2 ⟨rfl, hw2⟩; replace hw2 := hw2.symm; subst hw2)
    | fail)
  go_ret
  exact ⟨rfl, H0.out⟩
theorem pipeOrder_walk (w : World) (a0 : Int) (w0 : (Lit.int .i64 a0).wf = true) (A1 : Option Addr) (len1 cap1 : Nat) (S1 : Sh.ok w (Sh.slice 3 (Sh.agg 3 [(0, 1, (Sh.int .i64)), (1, 1, (Sh.int .i64)), (2, 1, Sh.str)])) [.slice A1 len1 cap1]) :
    Calls Try.prog 4 #[.int .i64 a0, .slice A1 len1 cap1] w fun e w' => e = .returned (.bool true) ∧ Below w.heap.size w w' := by
  obtain ⟨b, off, xs, hl, hm, hA⟩ := acts_of S1
  have hw := wf_i64 w0
  rcases light_ways w A1 len1 cap1 b off xs hA hl with ⟨h1, h2⟩ | h
  · by_cases h0 : 0 ≤ a0
    · exact order_pos w a0 h0 hw.2 A1 len1 cap1 b off xs hA hl h1 h2
    · exact order_neg w a0 (by omega) A1 len1 cap1 b off xs hA hl h1 h2
  · exact order_dark w a0 A1 len1 cap1 h
end Go.Proofs.Ytflhdpekmgpdfaa
