/- Telephone numbers: what the texts are, in plain words. -/
import Derived.Test.YthknkglhppngoaaGreatDoorZa
import Derived.Test.YthknkglhppngoaaGreatDoorZb
import Derived.Lib.ValidLaws
import Derived.Lib.TrimByte
/- A text squeezed. -/
namespace Go.Proofs.YthknkglhppngoaaGreatDoor
open Go.RowKit
set_option linter.unusedVariables false
set_option maxRecDepth 20000
def sqStep (x : Bool × List UInt8) (c : UInt8) : Bool × List UInt8 :=
  if ((c.toNat : Int) == 32) = true then (true, x.2) else (false, (if (x.1 && decide (0 < (x.2.length : Int))) = true then x.2 ++ [32] else x.2) ++ [c])
def sqAt (l : List UInt8) (k : Nat) : Bool × List UInt8 := (l.take k).foldl sqStep (false, [])
theorem sqAt_succ (l : List UInt8) (k : Nat) (hk : k < l.length) : sqAt l (k + 1) = sqStep (sqAt l k) l[k] := by
  unfold sqAt
  rw [List.take_succ_eq_append_getElem hk, List.foldl_append]; rfl
theorem sqAt_len (l : List UInt8) : ∀ k, k ≤ l.length → (sqAt l k).2.length ≤ 2 * k
  | 0, _ => by simp [sqAt]
  | k + 1, h => by
    have ih := sqAt_len l k (by omega)
    rw [sqAt_succ l k (by omega)]
    unfold sqStep
    split
    · simp only; omega
    · simp only
      split <;> simp <;> omega
theorem bc_app (l : List UInt8) (c : UInt8) : Lib.byteCells (l ++ [c]) = Lib.byteCells l ++ [.int .u8 (c.toNat : Int)] := by simp [Lib.byteCells]
theorem bc_len (l : List UInt8) : (Lib.byteCells l).length = l.length := by simp [Lib.byteCells]
set_option maxHeartbeats 1000000 in
theorem squeeze_any (s : ByteArray) (hs : s.size ≤ 1000000) (w : World) : Calls Tryz.prog 44 #[.string s] w fun e w' => e = .returned (.string ⟨(sqAt s.data.toList s.size).2.toArray⟩) ∧ Below w.heap.size w w' := by
  obtain ⟨B, hB⟩ : ∃ B, w.heap.size = B := ⟨_, rfl⟩
  obtain ⟨r, hr⟩ : ∃ r : ByteArray, (⟨(sqAt s.data.toList s.size).2.toArray⟩ : ByteArray) = r := ⟨_, rfl⟩
  have HP := Lib.hid hr.symm
  rw [hr]
  clear hr
  have HF := Lib.hid (Lib.fresh_isBuilder 63 5 w)
  have HB0 := Lib.hid ((Below.refl w.heap.size w).alloc (Nat.le_refl _) (.cells #[.pointer none, .slice none 0 0] 63))
  rw [hB] at HF HB0
  go_enter Tryz.func44, Tryz.ntmps44
  go_wp2
  obtain ⟨W1, hW1⟩ : ∃ W1, w.alloc (.cells #[.pointer none, .slice none 0 0] 63) = W1 := ⟨_, rfl⟩
  simp only [hW1] at HF HB0 ⊢
  clear hW1
  go_loopw [4, 8] (fun g i wr => ∃ k : Nat, k ≤ s.size ∧ i = .int .i64 (k : Int) ∧ g = .bool (sqAt s.data.toList k).1 ∧ Lib.IsBuilder 63 5 B B (Lib.byteCells (sqAt s.data.toList k).2) wr ∧ Below B w wr) (fun _ i _ => s.size - (intOf i).toNat)
  case atStart => exact ⟨0, Nat.zero_le _, rfl, rfl, HF.out, HB0.out⟩
  case round =>
    obtain ⟨k, hk, rfl, rfl, hi, hb⟩ := hrel
    have HI := Lib.hid hi
    have HBB := Lib.hid hb
    have HBs := Lib.hid (show B ≤ wr.heap.size by have := hb.size; omega)
    clear hi hb
    by_cases hlt : k < s.size
    · have hkl : k < s.data.toList.length := by simpa using hlt
      have HL := Lib.hid (sqAt_len s.data.toList k (by omega))
      obtain ⟨c, hc⟩ : ∃ c, s[k] = c := ⟨_, rfl⟩
      have hc8 : (c.toNat : Int) ≤ 255 := by have := c.toNat_lt; omega
      have HS := Lib.hid (show sqAt s.data.toList (k + 1) = sqStep (sqAt s.data.toList k) c from by rw [sqAt_succ _ _ hkl, ← hc]; rfl)
      obtain ⟨X, hX⟩ : ∃ X, sqAt s.data.toList k = X := ⟨_, rfl⟩
      rw [hX] at HS HL HI ⊢
      obtain ⟨g, o⟩ := X
      simp only at HL HI ⊢
      clear hX
      by_cases u1 : ((c.toNat : Int) == 32) = true
      · have HS2 := Lib.hid (show sqAt s.data.toList (k + 1) = (true, o) by rw [HS.out]; unfold sqStep; rw [if_pos u1])
        go_wp2
        exact ⟨⟨k + 1, by omega, by go_num, by rw [HS2.out], by rw [HS2.out]; exact HI.out, HBB.out⟩, by simp [intOf]; omega⟩
      · have u1' : ((c.toNat : Int) == 32) = false := by simpa using u1
        clear u1
        have last : ∀ (o2 : List UInt8) (w1 : World), o2.length ≤ 2 * k + 1 → B ≤ w1.heap.size → Lib.IsBuilder 63 5 B B (Lib.byteCells o2) w1 → Calls Tryz.prog 56 #[.pointer (some ⟨B, 0, none⟩), .int .u8 (c.toNat : Int)] w1 fun e w' => e = .returned .nilIface ∧ Lib.IsBuilder 63 5 B B (Lib.byteCells (o2 ++ [c])) w' ∧ Below B w1 w' := by
          intro o2 w1 h1 h2 h3
          refine (put_any B B _ (c.toNat : Int) w1 h3 (by rw [bc_len]; omega) h2).mono ?_
          rintro e w' ⟨rfl, h4, h5⟩
          exact ⟨rfl, by rw [bc_app]; exact h4, h5⟩
        have LAST := Lib.hid last
        clear last
        cases g with
        | false =>
          have HS2 := Lib.hid (show sqAt s.data.toList (k + 1) = (false, o ++ [c]) by rw [HS.out]; unfold sqStep; rw [if_neg (by rw [u1']; decide)]; rfl)
          go_wp2_with (go_at_call 56; refine (LAST.out o _ (by have := HL.out; omega) HBs.out HI.out).mono ?_)
          rintro e w2 ⟨rfl, h1, h2⟩
          have HI2 := Lib.hid h1
          have HB2 := Lib.hid (HBB.out.trans h2)
          clear h1 h2
          go_wp2
          exact ⟨⟨k + 1, by omega, by go_num, by rw [HS2.out], by rw [HS2.out]; exact HI2.out, HB2.out⟩, by simp [intOf]; omega⟩
        | true =>
          have hLen := Tryz.Builder_Len B B _ _ HI.out
          rw [bc_len] at hLen
          have HLn := Lib.hid hLen
          clear hLen
          by_cases u3 : 0 < (o.length : Int)
          · have HS2 := Lib.hid (show sqAt s.data.toList (k + 1) = (false, (o ++ [32]) ++ [c]) by rw [HS.out]; unfold sqStep; rw [if_neg (by rw [u1']; decide)]; simp only [Bool.true_and]; rw [if_pos (by simpa using u3)])
            go_wp2_with (go_at_call 62; refine HLn.out.mono ?_)
            rintro e w1 ⟨rfl, rfl⟩
            go_wp2_with (go_at_call 56; refine (put_any B B _ 32 _ HI.out (by rw [bc_len]; have := HL.out; omega) HBs.out).mono ?_)
            rintro e w2 ⟨rfl, h1, h2⟩
            have HI2 := Lib.hid (show Lib.IsBuilder 63 5 B B (Lib.byteCells (o ++ [32])) w2 by rw [bc_app]; exact h1)
            have HB2 := Lib.hid (HBB.out.trans h2)
            have HBt := Lib.hid (Nat.le_trans HBs.out h2.size)
            clear h1 h2
            go_wp2_with (go_at_call 56; refine (LAST.out (o ++ [32]) _ (by have := HL.out; simp; omega) HBt.out HI2.out).mono ?_)
            rintro e w3 ⟨rfl, h1, h2⟩
            have HI3 := Lib.hid h1
            have HB3 := Lib.hid (HB2.out.trans h2)
            clear h1 h2
            go_wp2
            exact ⟨⟨k + 1, by omega, by go_num, by rw [HS2.out], by rw [HS2.out]; exact HI3.out, HB3.out⟩, by simp [intOf]; omega⟩
          · obtain rfl : o = [] := by
              cases o with
              | nil => rfl
              | cons x y => exact absurd (by simp) u3
            have HS2 := Lib.hid (show sqAt s.data.toList (k + 1) = (false, [] ++ [c]) by rw [HS.out]; unfold sqStep; rw [if_neg (by rw [u1']; decide)]; rfl)
            clear u3
            go_wp2_with (go_at_call 62; refine HLn.out.mono ?_)
            rintro e w1 ⟨rfl, rfl⟩
            go_wp2_with (go_at_call 56; refine (LAST.out [] _ (by have := HL.out; omega) HBs.out HI.out).mono ?_)
            rintro e w2 ⟨rfl, h1, h2⟩
            have HI2 := Lib.hid h1
            have HB2 := Lib.hid (HBB.out.trans h2)
            clear h1 h2
            go_wp2
            exact ⟨⟨k + 1, by omega, by go_num, by rw [HS2.out], by rw [HS2.out]; exact HI2.out, HB2.out⟩, by simp [intOf]; omega⟩
    · have hks : k = s.size := by omega
      subst hks
      obtain ⟨o, ho⟩ : ∃ o, (sqAt s.data.toList s.size).2 = o := ⟨_, rfl⟩
      obtain ⟨gg, hgg⟩ : ∃ gg, (sqAt s.data.toList s.size).1 = gg := ⟨_, rfl⟩
      rw [ho] at HI HP
      rw [hgg]
      clear ho hgg
      go_wp2_with (go_at_call 57; refine (Tryz.Builder_String_any B B _ _ HI.out HBs.out).mono ?_)
      rintro e w2 ⟨rfl, h2⟩
      have HB2 := Lib.hid (HBB.out.trans h2)
      clear h2
      go_wp2
      go_ret
      exact ⟨by rw [HP.out]; rfl, (by rw [hB]; exact HB2.out)⟩
end Go.Proofs.YthknkglhppngoaaGreatDoor
/- A text without a control. -/
namespace Go.Proofs.YthknkglhppngoaaGreatDoor
open Go.RowKit
set_option linter.unusedVariables false
set_option maxRecDepth 20000
def ctl (c : UInt8) : Bool := decide ((c.toNat : Int) < 32) || (c.toNat : Int) == 127
set_option maxHeartbeats 4000000 in
theorem controls_any (s : ByteArray) (hs : s.size ≤ 1000000) (w : World) : Calls Tryz.prog 43 #[.string s] w fun e w' => e = .returned (.bool (s.data.toList.any ctl)) ∧ w' = w := by
  obtain ⟨r, hr⟩ : ∃ r, s.data.toList.any ctl = r := ⟨_, rfl⟩
  have HR := Lib.hid hr
  rw [hr]
  clear hr
  go_enter Tryz.func43, Tryz.ntmps43
  go_wp2
  go_loopw [6] (fun i wr => ∃ k : Nat, k ≤ s.size ∧ i = .int .i64 (k : Int) ∧ wr = w ∧ (s.data.toList.take k).any ctl = false) (fun i _ => s.size - (intOf i).toNat)
  case atStart => exact ⟨0, Nat.zero_le _, rfl, rfl, by simp⟩
  case round =>
    obtain ⟨k, hk, rfl, rfl, hno⟩ := hrel
    have HN := Lib.hid hno
    clear hno
    by_cases hlt : k < s.size
    · have hkl : k < s.data.toList.length := by simpa using hlt
      obtain ⟨c, hc⟩ : ∃ c, s[k] = c := ⟨_, rfl⟩
      have hc8 : (c.toNat : Int) ≤ 255 := by have := c.toNat_lt; omega
      have HC := Lib.hid (show s.data.toList[k] = c from by rw [← hc]; rfl)
      have HM := Lib.hid (show c ∈ s.data.toList from by rw [← HC.out]; exact List.getElem_mem _)
      have HT := Lib.hid (show (s.data.toList.take (k + 1)).any ctl = ((s.data.toList.take k).any ctl || ctl c) from by
        rw [List.take_succ_eq_append_getElem hkl, List.any_append, HC.out]; simp)
      by_cases u1 : (c.toNat : Int) < 32
      · have e := Lib.hid (show r = true by
          rw [← HR.out, List.any_eq_true]; exact ⟨c, HM.out, by unfold ctl; simp only [u1, decide_true, Bool.true_or]⟩)
        go_wp2
        go_ret
        exact ⟨by rw [e.out]; rfl, rfl⟩
      · have u1' : decide ((c.toNat : Int) < 32) = false := by simpa using u1
        by_cases u2 : (c.toNat : Int) = 127
        · have u2' : ((c.toNat : Int) == 127) = true := by rw [u2]; rfl
          have e := Lib.hid (show r = true by
            rw [← HR.out, List.any_eq_true]; exact ⟨c, HM.out, by unfold ctl; simp only [u2', Bool.or_true]⟩)
          clear u2
          go_wp2
          go_ret
          exact ⟨by rw [e.out]; rfl, rfl⟩
        · have u2' : ((c.toNat : Int) == 127) = false := by simpa using u2
          have HN2 := Lib.hid (show (s.data.toList.take (k + 1)).any ctl = false by
            rw [HT.out, HN.out]; unfold ctl; rw [u1', u2']; rfl)
          clear u2
          go_wp2
          exact ⟨⟨k + 1, by omega, by go_num, trivial, HN2.out⟩, by simp [intOf]; omega⟩
    · have hks : k = s.size := by omega
      subst hks
      have e := Lib.hid (show r = false by
        rw [← HR.out, ← HN.out, List.take_of_length_le (by simp)])
      go_wp2
      go_ret
      exact ⟨by rw [e.out]; rfl, rfl⟩
end Go.Proofs.YthknkglhppngoaaGreatDoor
/- A text made clean. -/
namespace Go.Proofs.YthknkglhppngoaaGreatDoor
open Go.RowKit
set_option linter.unusedVariables false
set_option maxRecDepth 20000
def squeezeS (s : ByteArray) : ByteArray := ⟨(sqAt s.data.toList s.size).2.toArray⟩
def cleanOf (v c : Bool) (t : ByteArray) : ByteArray × Int :=
  if (!v || c) = true then (⟨#[]⟩, 1) else if t = ⟨#[]⟩ then (⟨#[]⟩, 14) else if 64 < (t.size : Int) then (⟨#[]⟩, 2) else (t, 0)
def cleanS (s : ByteArray) : ByteArray × Int := cleanOf (Lib.validD s.data.toList) (s.data.toList.any ctl) (squeezeS s)
set_option maxHeartbeats 2000000 in
theorem clean_any (s : ByteArray) (hs : s.size ≤ 1000000) (w : World) (hT : Tabs w) : Calls Tryz.prog 28 #[.string s] w fun e w' => e = .returned (.tuple #[.string (cleanS s).1, .int .i64 (cleanS s).2]) ∧ Below w.heap.size w w' := by
  have hV := Tryz.utf8_ValidString s w (by omega) hT
  have hC := controls_any s hs
  have hS : ∀ w, Calls Tryz.prog 44 #[.string s] w fun e w' => e = .returned (.string (squeezeS s)) ∧ Below w.heap.size w w' := fun w => squeeze_any s hs w
  unfold cleanS
  obtain ⟨v, hv⟩ : ∃ v, Lib.validD s.data.toList = v := ⟨_, rfl⟩
  obtain ⟨c, hc⟩ : ∃ c, s.data.toList.any ctl = c := ⟨_, rfl⟩
  obtain ⟨t, ht⟩ : ∃ t, squeezeS s = t := ⟨_, rfl⟩
  simp only [hv, hc, ht] at hV hC hS ⊢
  have HV := Lib.hid hV
  have HC := Lib.hid hC
  have HS := Lib.hid hS
  clear hV hC hS hv hc ht
  obtain ⟨r, hr⟩ : ∃ r, cleanOf v c t = r := ⟨_, rfl⟩
  rw [hr]
  have HR := Lib.hid (show r = if (!v || c) = true then (⟨#[]⟩, 1) else if t = ⟨#[]⟩ then (⟨#[]⟩, 14) else if 64 < (t.size : Int) then (⟨#[]⟩, 2) else (t, 0) by rw [← hr]; rfl)
  clear hr
  go_enter Tryz.func28, Tryz.ntmps28
  go_wp2_with (go_at_call 42; refine HV.out.mono ?_)
  rintro e w1 ⟨rfl, h1⟩
  have HB1 := Lib.hid h1
  clear h1 HV
  cases v with
  | false =>
    have e := Lib.hid (show r = (⟨#[]⟩, 1) by rw [HR.out]; rfl)
    go_wp2
    go_ret2
    exact ⟨by rw [e.out]; rfl, HB1.out⟩
  | true =>
    go_wp2_with (go_at_call 43; refine (HC.out _).mono ?_)
    rintro e w2 ⟨rfl, rfl⟩
    cases c with
    | true =>
      have e := Lib.hid (show r = (⟨#[]⟩, 1) by rw [HR.out]; rfl)
      go_wp2
      go_ret2
      exact ⟨by rw [e.out]; rfl, HB1.out⟩
    | false =>
      go_wp2_with (go_at_call 44; refine (HS.out _).mono ?_)
      rintro e w3 ⟨rfl, h3⟩
      have HB3 := Lib.hid (HB1.out.trans (h3.mono HB1.out.size))
      clear h3
      by_cases t0 : t = ⟨#[]⟩
      · subst t0
        have e := Lib.hid (show r = (⟨#[]⟩, 14) by rw [HR.out]; rfl)
        go_wp2
        go_ret2
        exact ⟨by rw [e.out]; rfl, HB3.out⟩
      · have t1 : t.data.toList.isEmpty = false := by
          cases h : t.data.toList with
          | nil => exact absurd (bs_ext (by rw [h])) t0
          | cons x y => rfl
        have t2 : t.toList.isEmpty = false := by rw [ByteArray.toList_eq]; exact t1
        by_cases t3 : 64 < (t.size : Int)
        · have e := Lib.hid (show r = (⟨#[]⟩, 2) by rw [HR.out, if_neg (by decide), if_neg t0, if_pos t3])
          clear HR t0
          go_wp2
          go_ret2
          exact ⟨by rw [e.out]; rfl, HB3.out⟩
        · have e := Lib.hid (show r = (t, 0) by rw [HR.out, if_neg (by decide), if_neg t0, if_neg t3])
          clear HR t0
          go_wp2
          go_ret2
          exact ⟨by rw [e.out]; rfl, HB3.out⟩
end Go.Proofs.YthknkglhppngoaaGreatDoor
/- A text squeezed: what it is. -/
namespace Go.Proofs.YthknkglhppngoaaGreatDoor
open Go.RowKit
set_option linter.unusedVariables false
def isB (c : UInt8) : Bool := (c.toNat : Int) == 32
theorem isB_iff (c : UInt8) : isB c = true ↔ c = 32 := by
  unfold isB
  constructor
  · intro h
    have h : (c.toNat : Int) = 32 := by simpa using h
    exact UInt8.toNat_inj.1 (by show c.toNat = 32; omega)
  · rintro rfl; rfl
def run (x : Bool × List UInt8) (l : List UInt8) : Bool × List UInt8 := l.foldl sqStep x
def sq (l : List UInt8) : List UInt8 := (run (false, []) l).2
theorem squeezeS_sq (s : ByteArray) : squeezeS s = ⟨(sq s.data.toList).toArray⟩ := by
  unfold squeezeS sqAt sq run
  rw [List.take_of_length_le (by simp)]
theorem run_app (x : Bool × List UInt8) (l m : List UInt8) : run x (l ++ m) = run (run x l) m := by unfold run; rw [List.foldl_append]
theorem run_cons (x : Bool × List UInt8) (c : UInt8) (m : List UInt8) : run x (c :: m) = run (sqStep x c) m := rfl
theorem step_b (x : Bool × List UInt8) : sqStep x 32 = (true, x.2) := by unfold sqStep; rw [if_pos (by decide)]
theorem step_n (x : Bool × List UInt8) (c : UInt8) (h : c ≠ 32) : sqStep x c = (false, (if x.1 = true ∧ x.2 ≠ [] then x.2 ++ [32] else x.2) ++ [c]) := by
  unfold sqStep
  rw [if_neg (show ¬ ((c.toNat : Int) == 32) = true from fun e => h ((isB_iff c).1 e))]
  congr 2
  by_cases e : x.2 = []
  · rw [e]; simp
  · have : 0 < x.2.length := List.length_pos_iff.2 e
    cases x.1 <;> simp [e, this]
/-- What is squeezed squeezes to itself. -/
theorem run_self : ∀ (l : List UInt8) (g : Bool) (o : List UInt8), run (false, []) o = (false, o) → run (false, []) (run (g, o) l).2 = (false, (run (g, o) l).2)
  | [], _, _, h => h
  | c :: l, g, o, h => by
    rw [run_cons]
    by_cases hc : c = 32
    · subst hc; rw [step_b]; exact run_self l _ _ h
    · rw [step_n _ _ hc]
      refine run_self l _ _ ?_
      simp only
      by_cases hg : g = true ∧ o ≠ []
      · rw [if_pos hg, run_app, run_app, h]
        show sqStep (sqStep (false, o) 32) c = _
        rw [step_b, step_n _ _ hc]
        simp only
        rw [if_pos ⟨trivial, hg.2⟩]
      · rw [if_neg hg, run_app, h]
        show sqStep (false, o) c = _
        rw [step_n _ _ hc]
        rw [if_neg (by simp)]
theorem sq_sq (l : List UInt8) : sq (sq l) = sq l := by
  have := run_self l false [] rfl
  unfold sq
  rw [this]
/-- Blanks ahead say nothing. -/
theorem run_g0 : ∀ (l : List UInt8) (g : Bool), (run (g, []) l).2 = sq l
  | [], _ => rfl
  | c :: l, g => by
    unfold sq
    rw [run_cons, run_cons]
    by_cases hc : c = 32
    · subst hc; rw [step_b, step_b]
    · rw [step_n _ _ hc, step_n _ _ hc]; simp
theorem sq_blanks (l : List UInt8) : sq (32 :: 32 :: (l ++ [32])) = sq l := by
  show (run (false, []) (32 :: 32 :: (l ++ [32]))).2 = sq l
  rw [run_cons, run_cons, run_app, step_b, step_b]
  show (sqStep _ 32).2 = _
  rw [step_b]
  exact run_g0 l true
/-- Two texts with a blank between. -/
theorem run_on : ∀ (l : List UInt8) (g : Bool) (o p : List UInt8), p ≠ [] → (run (g, o ++ 32 :: p) l).2 = o ++ 32 :: (run (g, p) l).2
  | [], _, _, _, _ => rfl
  | c :: l, g, o, p, h => by
    rw [run_cons, run_cons]
    by_cases hc : c = 32
    · subst hc; rw [step_b, step_b]; exact run_on l _ o p h
    · rw [step_n _ _ hc, step_n _ _ hc]
      simp only
      by_cases hg : g = true
      · rw [if_pos ⟨hg, by simp⟩, if_pos ⟨hg, h⟩]
        have := run_on l false o (p ++ [32] ++ [c]) (by simp)
        simpa using this
      · rw [if_neg (fun e => hg e.1), if_neg (fun e => hg e.1)]
        have := run_on l false o (p ++ [c]) (by simp)
        simpa using this
theorem run_join : ∀ (l o : List UInt8), o ≠ [] → sq l ≠ [] → (run (true, o) l).2 = o ++ 32 :: sq l
  | [], _, _, h => absurd rfl h
  | c :: l, o, ho, h => by
    unfold sq at h ⊢
    rw [run_cons] at h ⊢
    rw [run_cons]
    by_cases hc : c = 32
    · subst hc
      rw [step_b] at h ⊢
      rw [step_b]
      have e : (run (true, []) l).2 = sq l := run_g0 l true
      have h' : (run (true, []) l).2 ≠ [] := h
      show (run (true, o) l).2 = o ++ 32 :: (run (true, []) l).2
      rw [e] at h' ⊢
      exact run_join l o ho h'
    · rw [step_n _ _ hc, step_n _ _ hc]
      simp only
      rw [if_pos ⟨trivial, ho⟩, if_neg (fun e => e.2 rfl)]
      have := run_on l false o [c] (by simp)
      simpa using this
theorem sq_join (a b : List UInt8) (ha : sq a ≠ []) (hb : sq b ≠ []) : sq (a ++ 32 :: b) = sq a ++ 32 :: sq b := by
  show (run (false, []) (a ++ 32 :: b)).2 = _
  rw [run_app, run_cons, step_b]
  exact run_join b _ ha hb
/-- Neat: no blank at the ends, none in a row. -/
structure Neat (o : List UInt8) : Prop where
  hd : o[0]? ≠ some 32
  tl : o[o.length - 1]? ≠ some 32
  dbl : ∀ i : Nat, o[i]? = some 32 → o[i + 1]? ≠ some 32
theorem Neat.nil : Neat [] := ⟨by simp, by simp, by simp⟩
theorem Neat.put {o : List UInt8} (h : Neat o) {c : UInt8} (hc : c ≠ 32) : Neat (o ++ [c]) := by
  refine ⟨?_, by simp [hc], ?_⟩
  · cases o with
    | nil => simpa using hc
    | cons x y => have := h.hd; simpa using this
  · intro i hi
    by_cases e : i + 1 < o.length
    · rw [List.getElem?_append_left (by omega)] at hi
      rw [List.getElem?_append_left e]; exact h.dbl i hi
    · by_cases e2 : i + 1 = o.length
      · rw [e2, List.getElem?_append_right (Nat.le_refl _)]; simpa using hc
      · rw [List.getElem?_eq_none (by simp; omega)]; simp
theorem Neat.put2 {o : List UInt8} (h : Neat o) {c : UInt8} (hc : c ≠ 32) (h0 : o ≠ []) : Neat (o ++ [32] ++ [c]) := by
  have hl : 0 < o.length := List.length_pos_iff.2 h0
  refine ⟨?_, by simp [hc], ?_⟩
  · have := h.hd
    rw [List.append_assoc, List.getElem?_append_left hl]; exact this
  · intro i hi
    rw [List.append_assoc] at hi ⊢
    by_cases e : i + 1 < o.length
    · rw [List.getElem?_append_left (by omega)] at hi
      rw [List.getElem?_append_left e]; exact h.dbl i hi
    · by_cases e2 : i + 1 = o.length
      · rw [List.getElem?_append_left (by omega)] at hi
        have : i = o.length - 1 := by omega
        subst this
        exact absurd hi h.tl
      · by_cases e3 : i = o.length
        · subst e3
          rw [List.getElem?_append_right (by omega)]; simpa using hc
        · rw [List.getElem?_append_right (by omega), List.getElem?_eq_none (by simp; omega)]; simp
theorem run_neat : ∀ (l : List UInt8) (g : Bool) (o : List UInt8), Neat o → Neat (run (g, o) l).2
  | [], _, _, h => h
  | c :: l, g, o, h => by
    rw [run_cons]
    by_cases hc : c = 32
    · subst hc; rw [step_b]; exact run_neat l _ _ h
    · rw [step_n _ _ hc]
      refine run_neat l _ _ ?_
      simp only
      by_cases hg : g = true ∧ o ≠ []
      · rw [if_pos hg]; exact h.put2 hc hg.2
      · rw [if_neg hg]; exact h.put hc
theorem sq_neat (l : List UInt8) : Neat (sq l) := run_neat l false [] Neat.nil
theorem run_mem : ∀ (l : List UInt8) (g : Bool) (o : List UInt8) (c : UInt8), c ∈ (run (g, o) l).2 → c ∈ o ∨ c ∈ l ∨ c = 32
  | [], _, _, _, h => .inl h
  | d :: l, g, o, c, h => by
    rw [run_cons] at h
    by_cases hd : d = 32
    · subst hd; rw [step_b] at h
      rcases run_mem l _ _ c h with h | h | h
      · exact .inl h
      · exact .inr (.inl (List.mem_cons.2 (.inr h)))
      · exact .inr (.inr h)
    · rw [step_n _ _ hd] at h
      rcases run_mem l _ _ c h with h | h | h
      · simp only at h
        split at h
        · simp only [List.mem_append, List.mem_singleton] at h
          rcases h with (h | h) | h
          · exact .inl h
          · exact .inr (.inr h)
          · exact .inr (.inl (by rw [h]; exact List.mem_cons_self))
        · simp only [List.mem_append, List.mem_singleton] at h
          rcases h with h | h
          · exact .inl h
          · exact .inr (.inl (by rw [h]; exact List.mem_cons_self))
      · exact .inr (.inl (List.mem_cons.2 (.inr h)))
      · exact .inr (.inr h)
theorem sq_ctl (l : List UInt8) (h : l.any ctl = false) : (sq l).any ctl = false := by
  rw [List.any_eq_false] at h ⊢
  intro c hc
  rcases run_mem l false [] c hc with h1 | h1 | h1
  · simp at h1
  · exact h c h1
  · subst h1; decide
end Go.Proofs.YthknkglhppngoaaGreatDoor
/- Valid texts, one behind the other; squeezed. -/
namespace Go.Proofs.YthknkglhppngoaaGreatDoor
open Go.RowKit Go.Lib
set_option linter.unusedVariables false
set_option maxHeartbeats 2000000 in
theorem lead_run (l : List UInt8) (hne : l ≠ []) (h0 : 128 ≤ (l.getD 0 0).toNat) (hv : validD l = true) :
    ∃ k, 2 ≤ k ∧ k ≤ l.length ∧ validD (l.drop k) = true ∧ (∀ j, j < k → 128 ≤ (l.getD j 0).toNat) ∧ ∀ m : List UInt8, k ≤ m.length → (∀ j, j < k → m.getD j 0 = l.getD j 0) → validD m = validD (m.drop k) := by
  rw [validD_lead l hne h0] at hv
  have fin : ∀ sz lo hi, firstT (l.getD 0 0).toNat % 8 = sz → accLo (firstT (l.getD 0 0).toNat / 16) = lo → accHi (firstT (l.getD 0 0).toNat / 16) = hi → (sz = 2 ∨ sz = 3 ∨ sz = 4 → 128 ≤ lo) → (sz = 2 ∨ sz = 3 ∨ sz = 4 ∨ (sz ≠ 2 ∧ sz ≠ 3 ∧ sz ≠ 4)) →
      ∃ k, 2 ≤ k ∧ k ≤ l.length ∧ validD (l.drop k) = true ∧ (∀ j, j < k → 128 ≤ (l.getD j 0).toNat) ∧ ∀ m : List UInt8, k ≤ m.length → (∀ j, j < k → m.getD j 0 = l.getD j 0) → validD m = validD (m.drop k) := by
    intro sz lo hi e1 e2 e3 hlo hsz
    rw [e1, e2, e3] at hv
    have hm : ∀ (k : Nat) (m : List UInt8), 2 ≤ k → k ≤ m.length → (∀ j, j < k → m.getD j 0 = l.getD j 0) → checkN m.length (m.getD 1 0).toNat (m.getD 2 0).toNat (m.getD 3 0).toNat sz lo hi = some k → validD m = validD (m.drop k) := by
      intro k m h2 hk he hc
      have h00 := he 0 (by omega)
      rw [validD_lead m (by rintro rfl; simp at hk; omega) (by rw [h00]; exact h0), h00, e1, e2, e3, hc]
    rcases hsz with rfl | rfl | rfl | ⟨n2, n3, n4⟩
    · have hlo := hlo (by decide)
      unfold checkN at hv hm
      simp only [if_true] at hv hm
      split at hv
      next h => split at h <;> simp_all
      next k h =>
        split at h
        · cases h
        · obtain rfl := Option.some.inj h
          refine ⟨2, by omega, by omega, hv, fun j hj => ?_, fun m hk he => hm 2 m (by omega) hk he ?_⟩
          · match j, hj with
            | 0, _ => exact h0
            | 1, _ => omega
          · rw [he 1 (by omega), if_neg (by omega)]
    · have hlo := hlo (by decide)
      unfold checkN at hv hm
      simp only [if_true, show ¬ (3 = 2) by decide, if_false] at hv hm
      split at hv
      next h => split at h <;> simp_all
      next k h =>
        split at h
        · cases h
        · obtain rfl := Option.some.inj h
          refine ⟨3, by omega, by omega, hv, fun j hj => ?_, fun m hk he => hm 3 m (by omega) hk he ?_⟩
          · match j, hj with
            | 0, _ => exact h0
            | 1, _ => omega
            | 2, _ => omega
          · rw [he 1 (by omega), he 2 (by omega), if_neg (by omega)]
    · have hlo := hlo (by decide)
      unfold checkN at hv hm
      simp only [if_true, show ¬ (4 = 2) by decide, show ¬ (4 = 3) by decide, if_false] at hv hm
      split at hv
      next h => split at h <;> simp_all
      next k h =>
        split at h
        · cases h
        · obtain rfl := Option.some.inj h
          refine ⟨4, by omega, by omega, hv, fun j hj => ?_, fun m hk he => hm 4 m (by omega) hk he ?_⟩
          · match j, hj with
            | 0, _ => exact h0
            | 1, _ => omega
            | 2, _ => omega
            | 3, _ => omega
          · rw [he 1 (by omega), he 2 (by omega), he 3 (by omega), if_neg (by omega)]
    · unfold checkN at hv
      rw [if_neg n2, if_neg n3, if_neg n4] at hv
      cases hv
  refine fin _ _ _ rfl rfl rfl ?_ (by omega)
  rcases firstT_cases (l.getD 0 0).toNat with h | h | h | h | h | h | h | h | h <;> rw [h] <;> decide
/-- o, and whatever stands behind it, is valid as that is. -/
def Whole (o : List UInt8) : Prop := ∀ r, validD (o ++ r) = validD r
theorem Whole.nil : Whole [] := fun _ => rfl
theorem Whole.app {o p : List UInt8} (h : Whole o) (k : Whole p) : Whole (o ++ p) := fun r => by rw [List.append_assoc, h, k]
theorem Whole.one {c : UInt8} (h : c.toNat < 128) : Whole [c] := fun r => validD_cons c r h
theorem Whole.valid {o : List UInt8} (h : Whole o) : validD o = true := by have := h []; simpa [validD_nil] using this
theorem lead_whole (l : List UInt8) (k : Nat) (hk : k ≤ l.length) (h : ∀ m : List UInt8, k ≤ m.length → (∀ j, j < k → m.getD j 0 = l.getD j 0) → validD m = validD (m.drop k)) : Whole (l.take k) := by
  intro r
  have hl : (l.take k).length = k := by simp; omega
  rw [h (l.take k ++ r) (by simp; omega) (fun j hj => by
    simp only [List.getD_eq_getElem?_getD]
    rw [List.getElem?_append_left (by omega), List.getElem?_take, if_pos hj]), List.drop_append_of_le_length (by omega), List.drop_of_length_le (by omega)]
  rfl
theorem valid_whole : ∀ (n : Nat) (l : List UInt8), l.length ≤ n → validD l = true → Whole l
  | _, [], _, _ => Whole.nil
  | 0, _ :: _, h, _ => by simp at h
  | n + 1, c :: t, h, hv => by
    by_cases hc : c.toNat < 128
    · rw [validD_cons c t hc] at hv
      exact (Whole.one hc).app (valid_whole n t (by simp at h; omega) hv)
    · obtain ⟨k, h2, hk, hd, _, hm⟩ := lead_run (c :: t) (by simp) (by simp; omega) hv
      have := (lead_whole _ k hk hm).app (valid_whole n ((c :: t).drop k) (by simp at h ⊢; omega) hd)
      rwa [List.take_append_drop] at this
theorem run_solid : ∀ (p : List UInt8) (o : List UInt8), (∀ c ∈ p, c ≠ 32) → run (false, o) p = (false, o ++ p)
  | [], o, _ => by simp [run]
  | c :: p, o, h => by
    rw [run_cons, step_n _ _ (h c List.mem_cons_self)]
    simp only [Bool.false_eq_true, false_and, if_false]
    rw [run_solid p _ (fun d hd => h d (List.mem_cons.2 (.inr hd)))]
    simp
theorem run_whole : ∀ (n : Nat) (l : List UInt8) (g : Bool) (o : List UInt8), l.length ≤ n → validD l = true → Whole o → Whole (run (g, o) l).2
  | _, [], _, _, _, _, h => h
  | 0, _ :: _, _, _, h, _, _ => by simp at h
  | n + 1, c :: t, g, o, h, hv, ho => by
    have ho2 : Whole (if g = true ∧ o ≠ [] then o ++ [32] else o) := by
      split
      · exact ho.app (Whole.one (by decide))
      · exact ho
    by_cases hc : c.toNat < 128
    · rw [validD_cons c t hc] at hv
      rw [run_cons]
      by_cases h32 : c = 32
      · subst h32; rw [step_b]; exact run_whole n t _ _ (by simp at h; omega) hv ho
      · rw [step_n _ _ h32]; exact run_whole n t _ _ (by simp at h; omega) hv (ho2.app (Whole.one hc))
    · obtain ⟨k, h2, hk, hd, hb, hm⟩ := lead_run (c :: t) (by simp) (by simp; omega) hv
      have hw := lead_whole _ k hk hm
      have hne : ∀ d ∈ (c :: t).take k, d ≠ 32 := by
        intro d hd2 e
        obtain ⟨j, hj, he⟩ := List.getElem_of_mem hd2
        have hj' : j < k := by simp at hj; omega
        have := hb j hj'
        rw [List.getElem_take] at he
        simp only [List.getD_eq_getElem?_getD] at this
        rw [List.getElem?_eq_getElem (by simp at hj; omega)] at this
        simp only [Option.getD_some] at this
        rw [he, e] at this
        exact absurd this (by decide)
      have e1 : run (g, o) (c :: t) = run (run (g, o) ((c :: t).take k)) ((c :: t).drop k) := by rw [← run_app, List.take_append_drop]
      have e2 : (c :: t).take k = c :: t.take (k - 1) := by
        cases k with
        | zero => omega
        | succ k => rfl
      have e3 : run (g, o) ((c :: t).take k) = (false, (if g = true ∧ o ≠ [] then o ++ [32] else o) ++ (c :: t).take k) := by
        rw [e2] at hne ⊢
        rw [run_cons, step_n _ _ (hne c List.mem_cons_self), run_solid _ _ (fun d hd => hne d (List.mem_cons.2 (.inr hd)))]
        simp
      rw [e1, e3]
      exact run_whole n _ _ _ (by simp at h ⊢; omega) hd (ho2.app hw)
theorem sq_whole (l : List UInt8) (h : validD l = true) : Whole (sq l) := run_whole l.length l false [] (Nat.le_refl _) h Whole.nil
theorem whole_of (l : List UInt8) (h : validD l = true) : Whole l := valid_whole l.length l (Nat.le_refl _) h
end Go.Proofs.YthknkglhppngoaaGreatDoor
namespace Go.Proofs.YthknkglhppngoaaGreatDoor
open Go.RowKit
open Go.Lib hiding intOf
set_option linter.unusedVariables false
def isDig (c : UInt8) : Bool := decide (48 ≤ (c.toNat : Int)) && decide ((c.toNat : Int) ≤ 57)
def dgsL (l : List UInt8) : List UInt8 := trimPrefix l [43]
def telB (l : List UInt8) : Bool := decide (3 ≤ ((dgsL l).length : Int)) && decide (((dgsL l).length : Int) ≤ 15) && (dgsL l).all isDig
def betw (c : UInt8) : Bool := c == 32 || c == 45 || c == 46 || c == 47 || c == 40 || c == 41
def bareL (l : List UInt8) : List UInt8 := l.filter (fun c => !betw c)
def telOf (t : ByteArray) (k : Int) : ByteArray × Int := if k = 0 then (if telB (bareL t.data.toList) = true then (⟨(bareL t.data.toList).toArray⟩, 0) else (⟨#[]⟩, 1)) else (⟨#[]⟩, k)
def telS (s : ByteArray) : ByteArray × Int := telOf (cleanS s).1 (cleanS s).2
/-- Three digits together, the first k of them. -/
def showK (d : List UInt8) : Nat → List UInt8
  | 0 => []
  | k + 1 => (if 0 < k ∧ k % 3 = 0 then showK d k ++ [32] else showK d k) ++ [d.getD k 0]
def showL (l : List UInt8) : List UInt8 := if telB l = true then l.take (l.length - (dgsL l).length) ++ showK (dgsL l) (dgsL l).length else []
def rowL (l : List UInt8) : List UInt8 := trimLeftB (dgsL l) 48
def matchL (x y : List UInt8) : Bool := if x.length < y.length then decide (5 ≤ (x.length : Int)) && hasSuffix y x else decide (5 ≤ (y.length : Int)) && hasSuffix x y
def matchB (a b : List UInt8) : Bool := telB a && telB b && matchL (rowL a) (rowL b)
theorem run_len : ∀ (l : List UInt8) (g : Bool) (o : List UInt8), (run (g, o) l).2.length ≤ o.length + l.length + (if g = true ∧ o ≠ [] then 1 else 0)
  | [], g, o => by show o.length ≤ _; omega
  | c :: t, g, o => by
    by_cases hc : c = 32
    · subst hc
      have ih := run_len t true o
      show (run (sqStep (g, o) 32) t).2.length ≤ _
      rw [step_b]
      have : (if true = true ∧ o ≠ [] then 1 else 0) ≤ 1 := by split <;> omega
      simp only [List.length_cons]
      omega
    · show (run (sqStep (g, o) c) t).2.length ≤ _
      rw [step_n _ _ hc]
      have ih := run_len t false ((if g = true ∧ o ≠ [] then o ++ [32] else o) ++ [c])
      simp only [Bool.false_eq_true, false_and, if_false, List.length_append, List.length_cons, List.length_nil] at ih ⊢
      refine Nat.le_trans ih ?_
      split <;> simp <;> omega
theorem sq_len (l : List UInt8) : (sq l).length ≤ l.length := by
  have := run_len l false []
  show (run (false, []) l).2.length ≤ _
  simpa using this
theorem bare_app (a b : List UInt8) : bareL (a ++ b) = bareL a ++ bareL b := List.filter_append ..
theorem run_bare : ∀ (l : List UInt8) (g : Bool) (o : List UInt8), bareL (run (g, o) l).2 = bareL o ++ bareL l
  | [], g, o => by show bareL o = _; simp [bareL]
  | c :: t, g, o => by
    have e : c :: t = [c] ++ t := rfl
    by_cases hc : c = 32
    · subst hc
      show bareL (run (sqStep (g, o) 32) t).2 = _
      rw [step_b, run_bare t, e, bare_app]
      rfl
    · show bareL (run (sqStep (g, o) c) t).2 = _
      rw [step_n _ _ hc, run_bare t, bare_app, e, bare_app]
      have : bareL (if g = true ∧ o ≠ [] then o ++ [32] else o) = bareL o := by
        split
        · rw [bare_app]; simp [bareL, betw]
        · rfl
      show bareL (if g = true ∧ o ≠ [] then o ++ [32] else o) ++ bareL [c] ++ bareL t = _
      rw [this, List.append_assoc]
theorem sq_bare (l : List UInt8) : bareL (sq l) = bareL l := by
  have := run_bare l false []
  show bareL (run (false, []) l).2 = _
  simpa [bareL] using this
theorem tascii_valid : ∀ (l : List UInt8), (∀ c ∈ l, c.toNat < 128) → validD l = true
  | [], _ => rfl
  | c :: t, h => by rw [validD_cons c t (h c (by simp))]; exact tascii_valid t (fun d hd => h d (by simp [hd]))
theorem tplain_ctl (l : List UInt8) (h : ∀ c ∈ l, 32 ≤ c.toNat ∧ c.toNat ≤ 126) : l.any ctl = false := by
  rw [List.any_eq_false]
  intro c hc
  have := h c hc
  unfold ctl
  simp only [Bool.or_eq_true, decide_eq_true_eq, beq_iff_eq]
  omega
theorem tbs_list (l : List UInt8) : (⟨l.toArray⟩ : ByteArray).data.toList = l := rfl
/-- Whatever stands between digits: the number is the same. -/
theorem tel_of (x : List UInt8) (h : ∀ c ∈ x, 32 ≤ c.toNat ∧ c.toNat ≤ 126) (hl : x.length ≤ 64) (ht : telB (bareL x) = true) : telS ⟨x.toArray⟩ = (⟨(bareL x).toArray⟩, 0) := by
  have hne : bareL x ≠ [] := by
    intro e
    rw [e] at ht
    exact absurd ht (by decide)
  have hsq : sq x ≠ [] := by
    intro e
    have := sq_bare x
    rw [e] at this
    exact hne (this.symm.trans rfl)
  have hc : cleanS ⟨x.toArray⟩ = (⟨(sq x).toArray⟩, 0) := by
    unfold cleanS
    rw [tbs_list, tascii_valid x (fun c hc => by have := h c hc; omega), tplain_ctl x h, squeezeS_sq, tbs_list]
    unfold cleanOf
    have h1 := sq_len x
    rw [if_neg (by decide), if_neg (fun e => hsq (by have := congrArg (fun b : ByteArray => b.data.toList) e; simpa using this)), if_neg (by
      show ¬ (64 < (((sq x).toArray.size : Nat) : Int))
      simp; omega)]
  unfold telS telOf
  rw [hc]
  simp only [if_true, sq_bare, ht]
theorem dgs_split (l : List UInt8) : ∃ p, l = p ++ dgsL l ∧ (p = [] ∨ p = [43]) ∧ p = l.take (l.length - (dgsL l).length) := by
  unfold dgsL trimPrefix
  by_cases h : hasPrefix l [43] = true
  · rw [if_pos h]
    cases l with
    | nil => cases h
    | cons c t =>
      have hc : c = 43 := by unfold hasPrefix at h; simp [List.isPrefixOf] at h; exact h.symm
      subst hc
      exact ⟨[43], rfl, .inr rfl, by simp⟩
  · rw [if_neg h]
    exact ⟨[], rfl, .inl rfl, by simp⟩
theorem telB_iff (l : List UInt8) : telB l = true ↔ 3 ≤ (dgsL l).length ∧ (dgsL l).length ≤ 15 ∧ ∀ c ∈ dgsL l, isDig c = true := by
  unfold telB
  simp only [Bool.and_eq_true, decide_eq_true_eq, List.all_eq_true]
  constructor
  · rintro ⟨⟨a, b⟩, c⟩; exact ⟨by omega, by omega, c⟩
  · rintro ⟨a, b, c⟩; exact ⟨⟨by omega, by omega⟩, c⟩
theorem dig_iff (c : UInt8) : isDig c = true ↔ 48 ≤ c.toNat ∧ c.toNat ≤ 57 := by
  unfold isDig
  simp only [Bool.and_eq_true, decide_eq_true_eq]
  omega
theorem betw_cases (c : UInt8) (h : betw c = true) : 32 ≤ c.toNat ∧ c.toNat ≤ 47 ∧ c.toNat ≠ 43 := by
  unfold betw at h
  simp only [Bool.or_eq_true, beq_iff_eq] at h
  rcases h with ((((h | h) | h) | h) | h) | h <;> subst h <;> decide
theorem bare_id (l : List UInt8) (h : ∀ c ∈ l, betw c = false) : bareL l = l := by
  unfold bareL
  exact List.filter_eq_self.2 (fun c hc => by rw [h c hc]; rfl)
theorem dig_not (c : UInt8) (h : isDig c = true) : betw c = false := by
  have := (dig_iff c).1 h
  cases e : betw c with
  | false => rfl
  | true => have := betw_cases c e; omega
theorem tel_plain {l : List UInt8} (h : telB l = true) : (∀ c ∈ l, betw c = false ∧ 32 ≤ c.toNat ∧ c.toNat ≤ 126) ∧ l.length ≤ 16 := by
  obtain ⟨h1, h2, h3⟩ := (telB_iff l).1 h
  obtain ⟨p, hl, hp, _⟩ := dgs_split l
  constructor
  · intro c hc
    rw [hl] at hc
    rcases List.mem_append.1 hc with hc | hc
    · rcases hp with rfl | rfl
      · cases hc
      · simp at hc; subst hc; decide
    · have := (dig_iff c).1 (h3 c hc)
      exact ⟨dig_not c (h3 c hc), by omega, by omega⟩
  · have := congrArg List.length hl
    rw [List.length_append] at this
    have hp2 : p.length ≤ 1 := by rcases hp with rfl | rfl <;> simp
    omega
theorem tel_self {l : List UInt8} (h : telB l = true) : telS ⟨l.toArray⟩ = (⟨l.toArray⟩, 0) := by
  obtain ⟨h1, h2⟩ := tel_plain h
  have hb : bareL l = l := bare_id l (fun c hc => (h1 c hc).1)
  have := tel_of l (fun c hc => (h1 c hc).2) (by omega) (by rw [hb]; exact h)
  rwa [hb] at this
theorem tel_between {l : List UInt8} (h : telB l = true) (j : Nat) (g : UInt8) (hg : betw g = true) : telS ⟨(l.take j ++ [g] ++ l.drop j).toArray⟩ = (⟨l.toArray⟩, 0) := by
  obtain ⟨h1, h2⟩ := tel_plain h
  have hb : bareL l = l := bare_id l (fun c hc => (h1 c hc).1)
  have e : bareL (l.take j ++ [g] ++ l.drop j) = l := by
    rw [bare_app, bare_app]
    have : bareL [g] = [] := by simp [bareL, hg]
    rw [this, List.append_nil, ← bare_app, List.take_append_drop, hb]
  have := tel_of (l.take j ++ [g] ++ l.drop j) (fun c hc => by
    rcases List.mem_append.1 hc with hc | hc
    · rcases List.mem_append.1 hc with hc | hc
      · exact (h1 c (List.mem_of_mem_take hc)).2
      · simp at hc; subst hc; have := betw_cases c hg; omega
    · exact (h1 c (List.mem_of_mem_drop hc)).2) (by simp; omega) (by rw [e]; exact h)
  rwa [e] at this
theorem showK_bare (d : List UInt8) (h : ∀ c ∈ d, isDig c = true) : ∀ k, k ≤ d.length → bareL (showK d k) = d.take k
  | 0, _ => rfl
  | k + 1, hk => by
    have ih := showK_bare d h k (by omega)
    have hd : d.getD k 0 = d[k] := by rw [List.getD_eq_getElem?_getD, List.getElem?_eq_getElem (by omega)]; rfl
    unfold showK
    rw [bare_app, hd, List.take_succ_eq_append_getElem (by omega)]
    congr 1
    · split
      · rw [bare_app, ih]; simp [bareL, betw]
      · exact ih
    · exact bare_id _ (fun c hc => by simp at hc; subst hc; exact dig_not _ (h _ (List.getElem_mem _)))
theorem showK_plain (d : List UInt8) (h : ∀ c ∈ d, isDig c = true) : ∀ k, k ≤ d.length → (∀ c ∈ showK d k, 32 ≤ c.toNat ∧ c.toNat ≤ 126) ∧ k ≤ (showK d k).length ∧ (showK d k).length ≤ 2 * k
  | 0, _ => by simp [showK]
  | k + 1, hk => by
    obtain ⟨i1, i2, i3⟩ := showK_plain d h k (by omega)
    have hd : d.getD k 0 = d[k] := by rw [List.getD_eq_getElem?_getD, List.getElem?_eq_getElem (by omega)]; rfl
    unfold showK
    rw [hd]
    refine ⟨fun c hc => ?_, by split <;> simp <;> omega, by split <;> simp <;> omega⟩
    rcases List.mem_append.1 hc with hc | hc
    · split at hc
      · rcases List.mem_append.1 hc with hc | hc
        · exact i1 c hc
        · simp at hc; subst hc; decide
      · exact i1 c hc
    · simp at hc
      have := (dig_iff c).1 (by rw [hc]; exact h _ (List.getElem_mem _))
      omega
theorem tel_show {l : List UInt8} (h : telB l = true) : telS ⟨(showL l).toArray⟩ = (⟨l.toArray⟩, 0) ∧ l.length ≤ (showL l).length ∧ (showL l).length ≤ 31 := by
  obtain ⟨h1, h2, h3⟩ := (telB_iff l).1 h
  obtain ⟨p, hl, hp, hpt⟩ := dgs_split l
  have hp2 : p.length ≤ 1 := by rcases hp with rfl | rfl <;> simp
  have hpb : bareL p = p := by rcases hp with rfl | rfl <;> rfl
  obtain ⟨k1, k2, k3⟩ := showK_plain _ h3 _ (Nat.le_refl _)
  have hs : showL l = p ++ showK (dgsL l) (dgsL l).length := by unfold showL; rw [if_pos h, ← hpt]
  have e : bareL (showL l) = l := by
    rw [hs, bare_app, hpb, showK_bare _ h3 _ (Nat.le_refl _), List.take_length, ← hl]
  have hlen : l.length = p.length + (dgsL l).length := by have := congrArg List.length hl; rwa [List.length_append] at this
  refine ⟨?_, by rw [hs, List.length_append]; omega, by rw [hs, List.length_append]; omega⟩
  have := tel_of (showL l) (fun c hc => by
    rw [hs] at hc
    rcases List.mem_append.1 hc with hc | hc
    · rcases hp with rfl | rfl
      · cases hc
      · simp at hc; subst hc; decide
    · exact k1 c hc) (by rw [hs, List.length_append]; omega) (by rw [e]; exact h)
  rwa [e] at this
/-- What Canon gives is a number, or nothing; and then the text was none. -/
theorem tel_cases (s : ByteArray) : ((telS s).2 = 0 ∧ telB (telS s).1.data.toList = true) ∨ ((telS s).2 ≠ 0 ∧ (telS s).1 = ⟨#[]⟩ ∧ telB s.data.toList = false) := by
  by_cases h : telB s.data.toList = true
  · have := tel_self h
    have e : (⟨s.data.toList.toArray⟩ : ByteArray) = s := rfl
    rw [e] at this
    left
    rw [this]
    exact ⟨rfl, h⟩
  · have h' : telB s.data.toList = false := by simpa using h
    unfold telS telOf
    by_cases hk : (cleanS s).2 = 0
    · rw [if_pos hk]
      by_cases ht : telB (bareL (cleanS s).1.data.toList) = true
      · rw [if_pos ht]; exact .inl ⟨rfl, ht⟩
      · rw [if_neg ht]; exact .inr ⟨by simp, rfl, h'⟩
    · rw [if_neg hk]; exact .inr ⟨hk, rfl, h'⟩
end Go.Proofs.YthknkglhppngoaaGreatDoor
