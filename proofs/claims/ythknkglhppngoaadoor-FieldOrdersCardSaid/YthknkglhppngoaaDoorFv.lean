/- Lines of a contact: the value as it is kept. -/
import Derived.Test.YthknkglhppngoaaDoorFw
import Derived.Test.YthknkglhppngoaaDoorTe
import Derived.Test.YthknkglhppngoaaDoorMq
import Derived.Test.YthknkglhppngoaaDoorYr
namespace Go.Proofs.YthknkglhppngoaaDoor
open Go.RowKit
open Go.Lib hiding intOf
set_option linter.unusedVariables false
set_option maxRecDepth 20000
def dayE (t : ByteArray) : Int := match Day.prs t with
  | some _ => 0
  | none => 1
theorem dayE_val (t : ByteArray) : Day.errV (Day.prs t) = .int .i64 (dayE t) := by
  unfold dayE
  cases Day.prs t <;> rfl
def valueS (k : Int) (s : ByteArray) : ByteArray × Int := if k = 3 then telS s else if k = 4 then mailS s else if k = 5 ∧ (cleanS s).2 = 0 then ((cleanS s).1, dayE (cleanS s).1) else cleanS s
set_option maxHeartbeats 4000000 in
theorem value_any (k : Int) (s : ByteArray) (hs : s.size ≤ 1000000) (w : World) (hT : Tabs w) (hM : Mx w) (hD : Day.Tab w.heap.size w) : Calls Tryd.prog 15 #[.int .i64 k, .string s] w fun e w' => e = .returned (.tuple #[.string (valueS k s).1, .int .i64 (valueS k s).2]) ∧ Below w.heap.size w w' := by
  have HC := Lib.hid (clean_any s hs w hT)
  by_cases h3 : k = 3
  · subst h3
    have H := Lib.hid (tcanon_any s hs w hT)
    have HV := Lib.hid (show valueS 3 s = telS s from rfl)
    clear hT hM hD
    go_enter Tryd.func15, Tryd.ntmps15
    go_wp2_with (go_at_call 18; (with_reducible refine (H.out).mono ?_); rintro e w1 ⟨rfl, hb⟩; have HB1 := Lib.hid hb; clear hb)
    go_ret2
    exact ⟨by rw [HV.out]; rfl, HB1.out⟩
  by_cases h4 : k = 4
  · subst h4
    have H := Lib.hid (mcanon_any s hs w hT hM)
    have HV := Lib.hid (show valueS 4 s = mailS s from rfl)
    clear hT hM hD
    go_enter Tryd.func15, Tryd.ntmps15
    go_wp2_with (go_at_call 19; (with_reducible refine (H.out).mono ?_); rintro e w1 ⟨rfl, hb⟩; have HB1 := Lib.hid hb; clear hb)
    go_ret2
    exact ⟨by rw [HV.out]; rfl, HB1.out⟩
  have d3 : (k == 3) = false := by simpa using h3
  have d4 : (k == 4) = false := by simpa using h4
  have HV := Lib.hid (show valueS k s = if k = 5 ∧ (cleanS s).2 = 0 then ((cleanS s).1, dayE (cleanS s).1) else cleanS s by unfold valueS; rw [if_neg h3, if_neg h4])
  have hle := clean_le s hs
  obtain ⟨⟨t, e0⟩, ht⟩ : ∃ t, cleanS s = t := ⟨_, rfl⟩
  rw [ht] at HC HV hle
  simp only at HV hle
  have HTD := Lib.hid hD
  clear h3 h4 ht hT hM hD
  by_cases h0 : e0 = 0
  · have c0 : (e0 == 0) = true := by simpa using h0
    by_cases h5 : k = 5
    · have d5 : (k == 5) = true := by simpa using h5
      have H0 := Lib.hid (show valueS k s = (t, dayE t) by rw [HV.out, if_pos ⟨h5, h0⟩])
      have HP := Lib.hid (fun v (h : Below w.heap.size w v) => Day.parse_any t hle v (Day.tab_on HTD.out h))
      rw [dayE_val] at HP
      clear h5 h0 HV
      go_enter Tryd.func15, Tryd.ntmps15
      go_wp2_with (go_at_call 20; (with_reducible refine (HC.out).mono ?_); rintro e w1 ⟨rfl, hb⟩; have HB1 := Lib.hid hb; clear hb)
      go_wp2_with (go_at_call 21; (with_reducible refine (HP.out _ HB1.out).mono ?_); rintro e w2 ⟨rfl, hb⟩; have HB2 := Lib.hid hb; clear hb)
      go_ret2
      exact ⟨by rw [H0.out]; rfl, HB1.out.trans (HB2.out.mono HB1.out.size)⟩
    · have d5 : (k == 5) = false := by simpa using h5
      have H0 := Lib.hid (show valueS k s = (t, e0) by rw [HV.out, if_neg (fun h => h5 h.1)])
      clear h5 h0 HV
      go_enter Tryd.func15, Tryd.ntmps15
      go_wp2_with (go_at_call 20; (with_reducible refine (HC.out).mono ?_); rintro e w1 ⟨rfl, hb⟩; have HB1 := Lib.hid hb; clear hb)
      go_ret2
      exact ⟨by rw [H0.out]; rfl, HB1.out⟩
  · have c0 : (e0 == 0) = false := by simpa using h0
    have H0 := Lib.hid (show valueS k s = (t, e0) by rw [HV.out, if_neg (fun h => h0 h.2)])
    clear h0 HV
    go_enter Tryd.func15, Tryd.ntmps15
    go_wp2_with (go_at_call 20; (with_reducible refine (HC.out).mono ?_); rintro e w1 ⟨rfl, hb⟩; have HB1 := Lib.hid hb; clear hb)
    go_ret2
    exact ⟨by rw [H0.out]; rfl, HB1.out⟩
end Go.Proofs.YthknkglhppngoaaDoor
