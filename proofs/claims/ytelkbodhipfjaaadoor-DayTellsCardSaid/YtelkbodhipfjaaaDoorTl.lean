/- DayTells: its walk. -/
import Derived.Test.YtelkbodhipfjaaaDoorRu
namespace Go.Proofs.YtelkbodhipfjaaaDoor
open Go.RowKit
set_option linter.unusedVariables false
set_option maxRecDepth 100000
attribute [local go_sem ↓] Go.wp_at_zero Go.wp_at_succ
structure Bx4 (w0 wr : World) (A B C D : Nat) (y m d ty tm td a b c : Int) : Prop where
  one : Blk wr A 23 #[.int .i64 y, .int .i64 m, .int .i64 d]
  tod : Blk wr B 23 #[.int .i64 ty, .int .i64 tm, .int .i64 td]
  two : Blk wr C 23 #[.int .i64 a, .int .i64 b, .int .i64 c]
  ref : Blk wr D 23 #[.int .i64 a, .int .i64 b, .int .i64 c]
  bel : Below w0.heap.size w0 wr
theorem Bx4.step {w0 wr w' : World} {A B C D : Nat} {y m d ty tm td a b c : Int} (h : Bx4 w0 wr A B C D y m d ty tm td a b c) (hb : Below wr.heap.size wr w') : Bx4 w0 w' A B C D y m d ty tm td a b c :=
  ⟨h.one.below hb h.one.lt, h.tod.below hb h.tod.lt, h.two.below hb h.two.lt, h.ref.below hb h.ref.lt, h.bel.trans (hb.mono h.bel.size)⟩
theorem Bx4.drewN {w0 wr : World} {A B C D : Nat} {y m d ty tm td a b c : Int} (h : Bx4 w0 wr A B C D y m d ty tm td a b c) (n : Nat) : Bx4 w0 (wr.drewN n) A B C D y m d ty tm td a b c :=
  ⟨h.one.drewN n, h.tod.drewN n, h.two.drewN n, h.ref.drewN n, below_drewN h.bel n⟩
theorem date_of (p : Option (Int × Int × Int)) : ∃ a b c e, dateV p = .agg #[.int .i64 a, .int .i64 b, .int .i64 c] ∧ errV p = .int .i64 e := by
  rcases p with _ | ⟨a, b, c⟩
  · exact ⟨0, 0, 0, 1, rfl, rfl⟩
  · exact ⟨a, b, c, 0, rfl, rfl⟩
set_option maxHeartbeats 16000000 in
theorem tells_in (w : World) (ht : Tab w.heap.size w) (y m d ty tm td : Int) (s : ByteArray) (hs : s.size ≤ 60) (q : Int) :
    Calls Tryd.prog 3 #[.agg #[.int .i64 y, .int .i64 m, .int .i64 d], .agg #[.int .i64 ty, .int .i64 tm, .int .i64 td], .string s, .int .i64 q] w fun e w' => e = .returned (.bool true) ∧ Below w.heap.size w w' := by
  have HX0 := Lib.hid (Bx3.start w y m d ty tm td)
  have HT := Lib.hid ht
  obtain ⟨a, b, c, e, hd, he⟩ := date_of (prs s)
  have HPA := Lib.hid (fun W (h : Below w.heap.size w W) => (show Calls Tryd.prog 8 #[.string s] W fun x w' => x = .returned (.tuple #[.agg #[.int .i64 a, .int .i64 b, .int .i64 c], .int .i64 e]) ∧ Below W.heap.size W w' by
    have := parse_any s hs W (tab_on ht h)
    rwa [hd, he] at this))
  have HRA := Lib.hid (fun W => (show Calls Tryd.prog 9 #[.string s] W fun x w' => x = .returned (.tuple #[.agg #[.int .i64 a, .int .i64 b, .int .i64 c], .int .i64 e]) ∧ Below W.heap.size W w' by
    have := rparse_any s hs W
    rwa [hd, he] at this))
  have hs1 : ¬ (s.size : Int) > 60 := by omega
  obtain ⟨MB, hMB⟩ : ∃ x, mayB y m d = x := ⟨_, rfl⟩
  obtain ⟨LB, hLB⟩ : ∃ x, leapB q = x := ⟨_, rfl⟩
  obtain ⟨SB, hSB⟩ : ∃ x, showS y m d = x := ⟨_, rfl⟩
  obtain ⟨CB, hCB⟩ : ∃ x, cnt y m d = x := ⟨_, rfl⟩
  obtain ⟨UB, hUB⟩ : ∃ x, untl y m d ty tm td = x := ⟨_, rfl⟩
  have HMB := Lib.hid hMB
  have HLB := Lib.hid hLB
  have HSB := Lib.hid hSB
  have HCB := Lib.hid hCB
  have HUB := Lib.hid hUB
  clear hd he ht hs hMB hLB hSB hCB hUB
  go_enter Tryd.func3, Tryd.ntmps3
  go_wp2_with fail
  refine (first_any _ (tab_on HT.out HX0.out.bel)).mono ?_
  rintro _ w1 ⟨rfl, hb⟩
  have HX1 := Lib.hid (HX0.out.step hb)
  clear hb
  go_wp2_with fail
  refine (HPA.out _ HX1.out.bel).mono ?_
  rintro _ w2 ⟨rfl, hb⟩
  have HX2 := Lib.hid ((HX1.out.step hb).new a b c)
  have HLT := Lib.hid (HX1.out.step hb).bel.size
  clear hb
  go_wp2_with fail
  refine (HRA.out _).mono ?_
  rintro _ w3 ⟨rfl, hb⟩
  have HX3 := Lib.hid (HX2.out.step hb)
  have HX4 := Lib.hid (show Bx4 w (w3.alloc (.cells #[.int .i64 a, .int .i64 b, .int .i64 c] 23)) w.heap.size (w.heap.size + 1) w2.heap.size w3.heap.size y m d ty tm td a b c from
    ⟨HX3.out.one.alloc _, HX3.out.tod.alloc _, HX3.out.two.alloc _, Blk.new _ _ _, HX3.out.bel.alloc HX3.out.bel.size _⟩)
  clear hb
  go_wp2_with fail
  generalize w2.heap.size = C at *
  generalize w3.heap.size = D at *
  have HV0 := Lib.hid (HX4.out.drewN 1)
  have HS : Hid (∀ wr, Bx4 w wr w.heap.size (w.heap.size + 1) C D y m d ty tm td a b c → (wr.cell? ⟨w.heap.size, 0, none⟩ = some (.int .i64 y) ∧ wr.cell? ⟨w.heap.size, 1, none⟩ = some (.int .i64 m) ∧ wr.cell? ⟨w.heap.size, 2, none⟩ = some (.int .i64 d) ∧ wr.cell? ⟨w.heap.size + 1, 0, none⟩ = some (.int .i64 ty) ∧ wr.cell? ⟨w.heap.size + 1, 1, none⟩ = some (.int .i64 tm) ∧ wr.cell? ⟨w.heap.size + 1, 2, none⟩ = some (.int .i64 td) ∧ wr.cell? ⟨C, 0, none⟩ = some (.int .i64 a) ∧ wr.cell? ⟨C, 1, none⟩ = some (.int .i64 b) ∧ wr.cell? ⟨C, 2, none⟩ = some (.int .i64 c) ∧ wr.cell? ⟨D, 0, none⟩ = some (.int .i64 a) ∧ wr.cell? ⟨D, 1, none⟩ = some (.int .i64 b) ∧ wr.cell? ⟨D, 2, none⟩ = some (.int .i64 c))) := Lib.hid fun wr h =>
    ⟨h.one.cell 0, h.one.cell 1, h.one.cell 2, h.tod.cell 0, h.tod.cell 1, h.tod.cell 2, h.two.cell 0, h.two.cell 1, h.two.cell 2, h.ref.cell 0, h.ref.cell 1, h.ref.cell 2⟩
  have s0 := HS.out _ HV0.out
  go_region_held3 (fun w' => w'.cell? ⟨w.heap.size, 0, none⟩ = some (.int .i64 y) ∧ w'.cell? ⟨w.heap.size, 1, none⟩ = some (.int .i64 m) ∧ w'.cell? ⟨w.heap.size, 2, none⟩ = some (.int .i64 d) ∧ w'.cell? ⟨w.heap.size + 1, 0, none⟩ = some (.int .i64 ty) ∧ w'.cell? ⟨w.heap.size + 1, 1, none⟩ = some (.int .i64 tm) ∧ w'.cell? ⟨w.heap.size + 1, 2, none⟩ = some (.int .i64 td) ∧ w'.cell? ⟨C, 0, none⟩ = some (.int .i64 a) ∧ w'.cell? ⟨C, 1, none⟩ = some (.int .i64 b) ∧ w'.cell? ⟨C, 2, none⟩ = some (.int .i64 c) ∧ w'.cell? ⟨D, 0, none⟩ = some (.int .i64 a) ∧ w'.cell? ⟨D, 1, none⟩ = some (.int .i64 b) ∧ w'.cell? ⟨D, 2, none⟩ = some (.int .i64 c)) (first | exact s0 | exact s1 | exact s2 | exact s3 | exact s4 | exact s5 | exact s6 | exact s7 | exact s8) (first
    | (go_at_call 10; (with_reducible refine (leap_any q _).mono ?_); rintro _ x1 ⟨rfl, hw⟩; rw [HLB.out]; subst hw)
    | (go_at_call 11; (with_reducible refine (rleap_any q _).mono ?_); rintro _ x1 ⟨rfl, hw⟩; rw [HLB.out]; subst hw)
    | (go_at_call 12
       (with_reducible refine (may_any y m d _).mono ?_)
       rintro _ v1 ⟨rfl, hb⟩
       rw [HMB.out]
       have HV1 := Lib.hid (HV0.out.step hb)
       have s1 := HS.out _ HV1.out
       clear hb)
    | (go_at_call 13
       (with_reducible refine (rmay_any y m d _).mono ?_)
       rintro _ v2 ⟨rfl, hb⟩
       rw [HMB.out]
       have HV2 := Lib.hid (HV1.out.step hb)
       have s2 := HS.out _ HV2.out
       clear hb)
    | (go_at_call 14
       (with_reducible refine (show_any y m d _ (tab_on HT.out HV2.out.bel)).mono ?_)
       rintro _ v3 ⟨rfl, hb⟩
       rw [HSB.out]
       have HV3 := Lib.hid (HV2.out.step hb)
       have s3 := HS.out _ HV3.out
       clear hb)
    | (go_at_call 15
       (with_reducible refine (rshow_any y m d _).mono ?_)
       rintro _ v4 ⟨rfl, hb⟩
       rw [HSB.out]
       have HV4 := Lib.hid (HV3.out.step hb)
       have s4 := HS.out _ HV4.out
       clear hb)
    | (go_at_call 16
       (with_reducible refine (count_any y m d _).mono ?_)
       rintro _ v5 ⟨rfl, hb⟩
       rw [HCB.out]
       have HV5 := Lib.hid (HV4.out.step hb)
       have s5 := HS.out _ HV5.out
       clear hb)
    | (go_at_call 17
       (with_reducible refine (rcount_any y m d _).mono ?_)
       rintro _ v6 ⟨rfl, hb⟩
       rw [HCB.out]
       have HV6 := Lib.hid (HV5.out.step hb)
       have s6 := HS.out _ HV6.out
       clear hb)
    | (go_at_call 18
       (with_reducible refine (until_any y m d ty tm td _).mono ?_)
       rintro _ v7 ⟨rfl, hb⟩
       rw [HUB.out]
       have HV7 := Lib.hid (HV6.out.step hb)
       have s7 := HS.out _ HV7.out
       clear hb)
    | (go_at_call 19
       (with_reducible refine (runtil_any y m d ty tm td _).mono ?_)
       rintro _ v8 ⟨rfl, hb⟩
       rw [HUB.out]
       have HV8 := Lib.hid (HV7.out.step hb)
       have s8 := HS.out _ HV8.out
       clear hb))
  all_goals (
    go_wp2
    go_ret
    exact ⟨rfl, HV8.out.bel⟩)
set_option maxHeartbeats 1000000 in
theorem tells_big (w : World) (ht : Tab w.heap.size w) (y m d ty tm td : Int) (s : ByteArray) (hs : 60 < s.size) (q : Int) :
    Calls Tryd.prog 3 #[.agg #[.int .i64 y, .int .i64 m, .int .i64 d], .agg #[.int .i64 ty, .int .i64 tm, .int .i64 td], .string s, .int .i64 q] w fun e w' => e = .returned (.bool true) ∧ Below w.heap.size w w' := by
  have HX0 := Lib.hid (Bx3.start w y m d ty tm td)
  have HT := Lib.hid ht
  have hs1 : (s.size : Int) > 60 := by omega
  clear ht hs
  go_enter Tryd.func3, Tryd.ntmps3
  go_wp2_with fail
  refine (first_any _ (tab_on HT.out HX0.out.bel)).mono ?_
  rintro _ w1 ⟨rfl, hb⟩
  have HX1 := Lib.hid (HX0.out.step hb)
  clear hb
  go_wp2_with fail
  refine (first_any _ (tab_on HT.out HX1.out.bel)).mono ?_
  rintro _ w2 ⟨rfl, hb⟩
  have HX2 := Lib.hid (HX1.out.step hb)
  clear hb
  go_wp2
  go_ret
  exact ⟨rfl, HX2.out.bel⟩
theorem dayTells_walk (w : World) (ht : Tab w.heap.size w) (a0 : Int) (w0 : (Lit.int .i64 a0).wf = true) (a1 : Int) (w1 : (Lit.int .i64 a1).wf = true) (a2 : Int) (w2 : (Lit.int .i64 a2).wf = true) (a3 : Int) (w3 : (Lit.int .i64 a3).wf = true) (a4 : Int) (w4 : (Lit.int .i64 a4).wf = true) (a5 : Int) (w5 : (Lit.int .i64 a5).wf = true) (a6 : ByteArray) (w6 : a6.size ≤ maxLen) (a7 : Int) (w7 : (Lit.int .i64 a7).wf = true) :
    Calls Tryd.prog 3 #[.agg #[.int .i64 a0, .int .i64 a1, .int .i64 a2], .agg #[.int .i64 a3, .int .i64 a4, .int .i64 a5], .string a6, .int .i64 a7] w fun e w' => e = .returned (.bool true) ∧ Below w.heap.size w w' := by
  by_cases hs : a6.size ≤ 60
  · exact tells_in w ht _ _ _ _ _ _ a6 hs a7
  · exact tells_big w ht _ _ _ _ _ _ a6 (by omega) a7
end Go.Proofs.YtelkbodhipfjaaaDoor
