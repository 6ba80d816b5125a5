/- A text squeezed. -/
import Derived.Test.YthknkglhppngoaaDoorFo
import Derived.Test.YthknkglhppngoaaDoorBl
import Derived.Test.YthknkglhppngoaaDoorShelf
namespace Go.Proofs.YthknkglhppngoaaDoor
open Go.RowKit
set_option linter.unusedVariables false
set_option maxRecDepth 20000
def sqStep (x : Bool × List UInt8) (c : UInt8) : Bool × List UInt8 :=
  if ((c.toNat : Int) == 32) = true then (true, x.2) else (false, (if (x.1 && decide (0 < (x.2.length : Int))) = true then x.2 ++ [32] else x.2) ++ [c])
def sqAt (l : List UInt8) (k : Nat) : Bool × List UInt8 := (l.take k).foldl sqStep (false, [])
theorem sqAt_succ (l : List UInt8) (k : Nat) (hk : k < l.length) : sqAt l (k + 1) = sqStep (sqAt l k) l[k] := by
  unfold sqAt
  rw [List.take_succ_eq_append_getElem hk, List.foldl_append]; rfl
theorem sqAt_len (l : List UInt8) : ∀ k, k ≤ l.length → (sqAt l k).2.length ≤ 2 * k
  | 0, _ => by simp [sqAt]
  | k + 1, h => by
    have ih := sqAt_len l k (by omega)
    rw [sqAt_succ l k (by omega)]
    unfold sqStep
    split
    · simp only; omega
    · simp only
      split <;> simp <;> omega
theorem bc_app (l : List UInt8) (c : UInt8) : Lib.byteCells (l ++ [c]) = Lib.byteCells l ++ [.int .u8 (c.toNat : Int)] := by simp [Lib.byteCells]
theorem bc_len (l : List UInt8) : (Lib.byteCells l).length = l.length := by simp [Lib.byteCells]
set_option maxHeartbeats 1000000 in
theorem squeeze_any (s : ByteArray) (hs : s.size ≤ 1000000) (w : World) : Calls Tryd.prog 30 #[.string s] w fun e w' => e = .returned (.string ⟨(sqAt s.data.toList s.size).2.toArray⟩) ∧ Below w.heap.size w w' := by
  obtain ⟨B, hB⟩ : ∃ B, w.heap.size = B := ⟨_, rfl⟩
  obtain ⟨r, hr⟩ : ∃ r : ByteArray, (⟨(sqAt s.data.toList s.size).2.toArray⟩ : ByteArray) = r := ⟨_, rfl⟩
  have HP := Lib.hid hr.symm
  rw [hr]
  clear hr
  have HF := Lib.hid (Lib.fresh_isBuilder 60 5 w)
  have HB0 := Lib.hid ((Below.refl w.heap.size w).alloc (Nat.le_refl _) (.cells #[.pointer none, .slice none 0 0] 60))
  rw [hB] at HF HB0
  go_enter Tryd.func30, Tryd.ntmps30
  go_wp2
  obtain ⟨W1, hW1⟩ : ∃ W1, w.alloc (.cells #[.pointer none, .slice none 0 0] 60) = W1 := ⟨_, rfl⟩
  simp only [hW1] at HF HB0 ⊢
  clear hW1
  go_loopw [4, 8] (fun g i wr => ∃ k : Nat, k ≤ s.size ∧ i = .int .i64 (k : Int) ∧ g = .bool (sqAt s.data.toList k).1 ∧ Lib.IsBuilder 60 5 B B (Lib.byteCells (sqAt s.data.toList k).2) wr ∧ Below B w wr) (fun _ i _ => s.size - (intOf i).toNat)
  case atStart => exact ⟨0, Nat.zero_le _, rfl, rfl, HF.out, HB0.out⟩
  case round =>
    obtain ⟨k, hk, rfl, rfl, hi, hb⟩ := hrel
    have HI := Lib.hid hi
    have HBB := Lib.hid hb
    have HBs := Lib.hid (show B ≤ wr.heap.size by have := hb.size; omega)
    clear hi hb
    by_cases hlt : k < s.size
    · have hkl : k < s.data.toList.length := by simpa using hlt
      have HL := Lib.hid (sqAt_len s.data.toList k (by omega))
      obtain ⟨c, hc⟩ : ∃ c, s[k] = c := ⟨_, rfl⟩
      have hc8 : (c.toNat : Int) ≤ 255 := by have := c.toNat_lt; omega
      have HS := Lib.hid (show sqAt s.data.toList (k + 1) = sqStep (sqAt s.data.toList k) c from by rw [sqAt_succ _ _ hkl, ← hc]; rfl)
      obtain ⟨X, hX⟩ : ∃ X, sqAt s.data.toList k = X := ⟨_, rfl⟩
      rw [hX] at HS HL HI ⊢
      obtain ⟨g, o⟩ := X
      simp only at HL HI ⊢
      clear hX
      by_cases u1 : ((c.toNat : Int) == 32) = true
      · have HS2 := Lib.hid (show sqAt s.data.toList (k + 1) = (true, o) by rw [HS.out]; unfold sqStep; rw [if_pos u1])
        go_wp2
        exact ⟨⟨k + 1, by omega, by go_num, by rw [HS2.out], by rw [HS2.out]; exact HI.out, HBB.out⟩, by simp [intOf]; omega⟩
      · have u1' : ((c.toNat : Int) == 32) = false := by simpa using u1
        clear u1
        have last : ∀ (o2 : List UInt8) (w1 : World), o2.length ≤ 2 * k + 1 → B ≤ w1.heap.size → Lib.IsBuilder 60 5 B B (Lib.byteCells o2) w1 → Calls Tryd.prog 40 #[.pointer (some ⟨B, 0, none⟩), .int .u8 (c.toNat : Int)] w1 fun e w' => e = .returned .nilIface ∧ Lib.IsBuilder 60 5 B B (Lib.byteCells (o2 ++ [c])) w' ∧ Below B w1 w' := by
          intro o2 w1 h1 h2 h3
          refine (put_any B B _ (c.toNat : Int) w1 h3 (by rw [bc_len]; omega) h2).mono ?_
          rintro e w' ⟨rfl, h4, h5⟩
          exact ⟨rfl, by rw [bc_app]; exact h4, h5⟩
        have LAST := Lib.hid last
        clear last
        cases g with
        | false =>
          have HS2 := Lib.hid (show sqAt s.data.toList (k + 1) = (false, o ++ [c]) by rw [HS.out]; unfold sqStep; rw [if_neg (by rw [u1']; decide)]; rfl)
          go_wp2_with (go_at_call 40; refine (LAST.out o _ (by have := HL.out; omega) HBs.out HI.out).mono ?_)
          rintro e w2 ⟨rfl, h1, h2⟩
          have HI2 := Lib.hid h1
          have HB2 := Lib.hid (HBB.out.trans h2)
          clear h1 h2
          go_wp2
          exact ⟨⟨k + 1, by omega, by go_num, by rw [HS2.out], by rw [HS2.out]; exact HI2.out, HB2.out⟩, by simp [intOf]; omega⟩
        | true =>
          have hLen := Tryd.Builder_Len B B _ _ HI.out
          rw [bc_len] at hLen
          have HLn := Lib.hid hLen
          clear hLen
          by_cases u3 : 0 < (o.length : Int)
          · have HS2 := Lib.hid (show sqAt s.data.toList (k + 1) = (false, (o ++ [32]) ++ [c]) by rw [HS.out]; unfold sqStep; rw [if_neg (by rw [u1']; decide)]; simp only [Bool.true_and]; rw [if_pos (by simpa using u3)])
            go_wp2_with (go_at_call 46; refine HLn.out.mono ?_)
            rintro e w1 ⟨rfl, rfl⟩
            go_wp2_with (go_at_call 40; refine (put_any B B _ 32 _ HI.out (by rw [bc_len]; have := HL.out; omega) HBs.out).mono ?_)
            rintro e w2 ⟨rfl, h1, h2⟩
            have HI2 := Lib.hid (show Lib.IsBuilder 60 5 B B (Lib.byteCells (o ++ [32])) w2 by rw [bc_app]; exact h1)
            have HB2 := Lib.hid (HBB.out.trans h2)
            have HBt := Lib.hid (Nat.le_trans HBs.out h2.size)
            clear h1 h2
            go_wp2_with (go_at_call 40; refine (LAST.out (o ++ [32]) _ (by have := HL.out; simp; omega) HBt.out HI2.out).mono ?_)
            rintro e w3 ⟨rfl, h1, h2⟩
            have HI3 := Lib.hid h1
            have HB3 := Lib.hid (HB2.out.trans h2)
            clear h1 h2
            go_wp2
            exact ⟨⟨k + 1, by omega, by go_num, by rw [HS2.out], by rw [HS2.out]; exact HI3.out, HB3.out⟩, by simp [intOf]; omega⟩
          · obtain rfl : o = [] := by
              cases o with
              | nil => rfl
              | cons x y => exact absurd (by simp) u3
            have HS2 := Lib.hid (show sqAt s.data.toList (k + 1) = (false, [] ++ [c]) by rw [HS.out]; unfold sqStep; rw [if_neg (by rw [u1']; decide)]; rfl)
            clear u3
            go_wp2_with (go_at_call 46; refine HLn.out.mono ?_)
            rintro e w1 ⟨rfl, rfl⟩
            go_wp2_with (go_at_call 40; refine (LAST.out [] _ (by have := HL.out; omega) HBs.out HI.out).mono ?_)
            rintro e w2 ⟨rfl, h1, h2⟩
            have HI2 := Lib.hid h1
            have HB2 := Lib.hid (HBB.out.trans h2)
            clear h1 h2
            go_wp2
            exact ⟨⟨k + 1, by omega, by go_num, by rw [HS2.out], by rw [HS2.out]; exact HI2.out, HB2.out⟩, by simp [intOf]; omega⟩
    · have hks : k = s.size := by omega
      subst hks
      obtain ⟨o, ho⟩ : ∃ o, (sqAt s.data.toList s.size).2 = o := ⟨_, rfl⟩
      obtain ⟨gg, hgg⟩ : ∃ gg, (sqAt s.data.toList s.size).1 = gg := ⟨_, rfl⟩
      rw [ho] at HI HP
      rw [hgg]
      clear ho hgg
      go_wp2_with (go_at_call 41; refine (Tryd.Builder_String_any B B _ _ HI.out HBs.out).mono ?_)
      rintro e w2 ⟨rfl, h2⟩
      have HB2 := Lib.hid (HBB.out.trans h2)
      clear h2
      go_wp2
      go_ret
      exact ⟨by rw [HP.out]; rfl, (by rw [hB]; exact HB2.out)⟩
end Go.Proofs.YthknkglhppngoaaDoor
