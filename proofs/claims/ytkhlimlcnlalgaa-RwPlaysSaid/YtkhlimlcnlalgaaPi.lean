/- The reference's lock: Leave. -/
import Derived.Test.YtkhlimlcnlalgaaPh
namespace Go.Proofs.Ytkhlimlcnlalgaa
open Go.RowKit Go.Maps
open Go.Lib
open Go.ChangeShapes Go.ChangeAt
set_option linter.unusedVariables false
set_option linter.unusedSimpArgs false
set_option maxRecDepth 100000
section
variable {w W : World} {g C : Nat} {Vi Vq V : Value} {Q H : List Pq} {n : Nat}
theorem del_len (L : List Pq) (x : Int) : (delH L x).length ≤ L.length := List.length_filter_le _ _
theorem up3 {w : World} {B C : Nat} {V : Value} {n : Nat} {vs : List Value} (h : w.ownsRow B 3 1 V n vs) (hC : C ≤ B) : w.ownsRow C 3 1 V n vs := by
  obtain ⟨h0, h3 | ⟨b, cap, cur, e1, e2, e3⟩⟩ := h
  · exact ⟨h0, .inl h3⟩
  · exact ⟨h0, .inr ⟨b, cap, cur, e1, Nat.le_trans hC e2, e3⟩⟩
set_option maxHeartbeats 8000000 in
theorem rleave_any (h : Rk w g C Vi Vq Q H) (hC : C ≤ w.heap.size) (hI : Iv Q H n) (hn : n ≤ 1000) (x : Int) : Calls Try.prog 13 #[.pointer (some ⟨g, 0, none⟩), .int .i64 x] w fun e w' => ∃ U Vi' Vq', e = .returned U ∧ Rk w' g C Vi' Vq' (lvQ Q H x) (lvH Q H x) ∧ w'.ownsRow w.heap.size 3 1 U (lvC Q H x).length (ivs (lvC Q H x)) ∧ Kr w w' g Vi Vq Vi' Vq' := by
  have hln := hI.len
  have HH := Lib.hid h
  have HI := Lib.hid hI
  have hgl := h.box.lt
  have HS := Lib.hid (rstate_any h (by omega) hI.h2 x)
  have c0 := h.box.cell 0
  have c1 := h.box.cell 1
  have f0 := h.box.frozen 0
  have f1 := h.box.frozen 1
  obtain ⟨Aq, cq, hVq, _⟩ := row2_sl h.q
  subst hVq
  obtain ⟨Ai, ci, hVi, _⟩ := row2_sl h.i
  subst hVi
  have HP := Lib.hid (fun hs => pre_del (x := x) hI hs)
  unfold lvQ lvH lvC
  obtain ⟨s, hs⟩ : ∃ s, stL Q H x = s := ⟨_, rfl⟩
  rw [hs] at HS HP ⊢
  clear h hI hs
  by_cases h0 : s = 0
  · subst h0
    rw [if_pos rfl, if_pos rfl, if_pos rfl]
    go_enter Try.func13, Try.ntmps13
    go_wp2_with fail
    refine (HS.out).mono ?_
    rintro _ wz ⟨rfl, hw0⟩
    replace hw0 := hw0.symm
    subst hw0
    go_wp2
    go_ret
    exact ⟨_, _, _, rfl, HH.out, World.ownsRow_nil _ _ _ _, Kr.refl _ _ _ _⟩
  · have hsb : (s == 0) = false := by simpa using h0
    rw [if_neg h0, if_neg h0, if_neg h0, (HP.out h0).1, (HP.out h0).2]
    clear h0
    go_enter Try.func13, Try.ntmps13
    go_wp2_with fail
    refine (HS.out).mono ?_
    rintro _ wz ⟨rfl, hw0⟩
    replace hw0 := hw0.symm
    subst hw0
    go_wp2_with fail
    have HL1 := Lib.hid (rless_any HH.out.i (by omega) x)
    have HL1d := Lib.hid (rless_any (row2_drew HH.out.i) (by omega) x)
    go_region_with (first
      | (go_at_call 25
         (with_reducible refine HL1d.out.mono ?_)
         rintro _ w1 ⟨A1, k1, rfl, hr1, hb1⟩
         have HR1 := Lib.hid hr1
         have HB1 := Lib.hid (show Below w.heap.size w w1 from ((Below.refl _ w).drew).trans hb1)
         have HH1 := HH.out.kept HB1.out
         have d0 := HH1.box.cell 0
         have d1 := HH1.box.cell 1
         have e0 := HH1.box.frozen 0
         have e1 := HH1.box.frozen 1
         have HL2 := Lib.hid (rless_any HH1.q (by omega) x)
         clear hr1 hb1 HH1)
      | (go_at_call 25
         (with_reducible refine HL2.out.mono ?_)
         rintro _ w2 ⟨A2, k2, rfl, hr2, hb2⟩
         have HR2 := Lib.hid hr2
         have HB2 := Lib.hid (show Below w1.heap.size w1 w2 from hb2)
         have HH2 := (HH.out.kept HB1.out).kept HB2.out
         have d0 := HH2.box.cell 0
         have d1 := HH2.box.cell 1
         have e0 := HH2.box.frozen 0
         have e1 := HH2.box.frozen 1
         clear hr2 hb2 HH2))
    all_goals (
      have HD := Lib.hid (lv_done HH.out hC HB1.out (show w1.ownsRow w.heap.size 48 2 _ _ _ from HR1.out) rfl HB2.out HR2.out rfl)
      obtain ⟨w4, hw4⟩ : ∃ w4, (w2.setCell ⟨g, 0, none⟩ (.slice A1 (delH H x).length k1)).setCell ⟨g, 1, none⟩ (.slice A2 (delH Q x).length k2) = w4 := ⟨_, rfl⟩
      rw [hw4] at HD ⊢
      have hdq := del_len Q x
      have hdh := del_len H x
      clear hw4 c0 c1 f0 f1 d0 d1 e0 e1
      go_wp2_with (first
        | (go_at_call 22
           refine (rmove_any HD.out.1 (by have := HD.out.2.size; omega) (by omega) (del_alone HI.out.alone)).mono ?_
           rintro _ w5 ⟨U, Vi', Vq', rfl, hr, hu, hk⟩
           have HR5 := Lib.hid hr
           have HU5 := Lib.hid hu
           have HK5 := Lib.hid (HD.out.2.trans hk)
           clear hr hu hk)
        | fail)
      go_ret
      refine ⟨_, _, _, rfl, HR5.out, ?_, HK5.out⟩
      exact up3 HU5.out HD.out.2.size)
end
end Go.Proofs.Ytkhlimlcnlalgaa
