/- A text made clean. -/
import Derived.Test.YthknkglhppngoaaDoorVt
import Derived.Test.YthknkglhppngoaaDoorSq
import Derived.Test.YthknkglhppngoaaDoorCo
namespace Go.Proofs.YthknkglhppngoaaDoor
open Go.RowKit
set_option linter.unusedVariables false
set_option maxRecDepth 20000
def squeezeS (s : ByteArray) : ByteArray := ⟨(sqAt s.data.toList s.size).2.toArray⟩
def cleanOf (v c : Bool) (t : ByteArray) : ByteArray × Int :=
  if (!v || c) = true then (⟨#[]⟩, 1) else if t = ⟨#[]⟩ then (⟨#[]⟩, 14) else if 64 < (t.size : Int) then (⟨#[]⟩, 2) else (t, 0)
def cleanS (s : ByteArray) : ByteArray × Int := cleanOf (Lib.validD s.data.toList) (s.data.toList.any ctl) (squeezeS s)
set_option maxHeartbeats 2000000 in
theorem clean_any (s : ByteArray) (hs : s.size ≤ 1000000) (w : World) (hT : Tabs w) : Calls Tryd.prog 20 #[.string s] w fun e w' => e = .returned (.tuple #[.string (cleanS s).1, .int .i64 (cleanS s).2]) ∧ Below w.heap.size w w' := by
  have hV := Tryd.utf8_ValidString s w (by omega) hT
  have hC := controls_any s hs
  have hS : ∀ w, Calls Tryd.prog 30 #[.string s] w fun e w' => e = .returned (.string (squeezeS s)) ∧ Below w.heap.size w w' := fun w => squeeze_any s hs w
  unfold cleanS
  obtain ⟨v, hv⟩ : ∃ v, Lib.validD s.data.toList = v := ⟨_, rfl⟩
  obtain ⟨c, hc⟩ : ∃ c, s.data.toList.any ctl = c := ⟨_, rfl⟩
  obtain ⟨t, ht⟩ : ∃ t, squeezeS s = t := ⟨_, rfl⟩
  simp only [hv, hc, ht] at hV hC hS ⊢
  have HV := Lib.hid hV
  have HC := Lib.hid hC
  have HS := Lib.hid hS
  clear hV hC hS hv hc ht
  obtain ⟨r, hr⟩ : ∃ r, cleanOf v c t = r := ⟨_, rfl⟩
  rw [hr]
  have HR := Lib.hid (show r = if (!v || c) = true then (⟨#[]⟩, 1) else if t = ⟨#[]⟩ then (⟨#[]⟩, 14) else if 64 < (t.size : Int) then (⟨#[]⟩, 2) else (t, 0) by rw [← hr]; rfl)
  clear hr
  go_enter Tryd.func20, Tryd.ntmps20
  go_wp2_with (go_at_call 28; refine HV.out.mono ?_)
  rintro e w1 ⟨rfl, h1⟩
  have HB1 := Lib.hid h1
  clear h1 HV
  cases v with
  | false =>
    have e := Lib.hid (show r = (⟨#[]⟩, 1) by rw [HR.out]; rfl)
    go_wp2
    go_ret2
    exact ⟨by rw [e.out]; rfl, HB1.out⟩
  | true =>
    go_wp2_with (go_at_call 29; refine (HC.out _).mono ?_)
    rintro e w2 ⟨rfl, rfl⟩
    cases c with
    | true =>
      have e := Lib.hid (show r = (⟨#[]⟩, 1) by rw [HR.out]; rfl)
      go_wp2
      go_ret2
      exact ⟨by rw [e.out]; rfl, HB1.out⟩
    | false =>
      go_wp2_with (go_at_call 30; refine (HS.out _).mono ?_)
      rintro e w3 ⟨rfl, h3⟩
      have HB3 := Lib.hid (HB1.out.trans (h3.mono HB1.out.size))
      clear h3
      by_cases t0 : t = ⟨#[]⟩
      · subst t0
        have e := Lib.hid (show r = (⟨#[]⟩, 14) by rw [HR.out]; rfl)
        go_wp2
        go_ret2
        exact ⟨by rw [e.out]; rfl, HB3.out⟩
      · have t1 : t.data.toList.isEmpty = false := by
          cases h : t.data.toList with
          | nil => exact absurd (bs_ext (by rw [h])) t0
          | cons x y => rfl
        have t2 : t.toList.isEmpty = false := by rw [ByteArray.toList_eq]; exact t1
        by_cases t3 : 64 < (t.size : Int)
        · have e := Lib.hid (show r = (⟨#[]⟩, 2) by rw [HR.out, if_neg (by decide), if_neg t0, if_pos t3])
          clear HR t0
          go_wp2
          go_ret2
          exact ⟨by rw [e.out]; rfl, HB3.out⟩
        · have e := Lib.hid (show r = (t, 0) by rw [HR.out, if_neg (by decide), if_neg t0, if_neg t3])
          clear HR t0
          go_wp2
          go_ret2
          exact ⟨by rw [e.out]; rfl, HB3.out⟩
end Go.Proofs.YthknkglhppngoaaDoor
