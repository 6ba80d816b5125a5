/- Lines of a contact: May. -/
import Derived.Test.YthknkglhppngoaaDoorFc
namespace Go.Proofs.YthknkglhppngoaaDoor
open Go.RowKit
open Go.Lib hiding intOf
set_option linter.unusedVariables false
set_option maxRecDepth 20000
attribute [local go_sem ↓] Go.wp_at_zero Go.wp_at_succ
def mayF (k l : Int) (v : ByteArray) : Bool := !(kindW k).toList.isEmpty && labelledB k l && ((valueS k v).2 == 0) && ((valueS k v).1.toList == v.toList)
theorem canonV_cases (k l : Int) (v : ByteArray) : (∃ e, e ≠ 0 ∧ canonV k l v = .tuple #[fieldV 0 0 ⟨#[]⟩, .int .i64 e] ∧ mayF k l v = false) ∨ (∃ t, canonV k l v = .tuple #[fieldV k l t, .int .i64 0] ∧ mayF k l v = (t.toList == v.toList)) := by
  unfold canonV mayF
  cases h1 : (kindW k).toList.isEmpty with
  | true => exact .inl ⟨1, by decide, by rw [if_pos (.inl rfl)], by simp⟩
  | false =>
    cases h2 : labelledB k l with
    | false => exact .inl ⟨1, by decide, by rw [if_pos (.inr rfl)], by simp⟩
    | true =>
      rw [if_neg (by simp)]
      by_cases h3 : (valueS k v).2 = 0
      · exact .inr ⟨(valueS k v).1, by rw [if_pos h3], by rw [h3]; simp⟩
      · refine .inl ⟨(valueS k v).2, h3, by rw [if_neg h3], ?_⟩
        have : ((valueS k v).2 == 0) = false := by simpa using h3
        rw [this]; simp
set_option maxHeartbeats 4000000 in
theorem fmay_any (k l : Int) (v : ByteArray) (hs : v.size ≤ 1000000) (w : World) (hT : Tabs w) (hM : Mx w) (hD : Day.Tab w.heap.size w) : Calls Tryd.prog 8 #[fieldV k l v] w fun e w' => e = .returned (.bool (mayF k l v)) ∧ Below w.heap.size w w' := by
  have hb0 : Below w.heap.size w (w.alloc (.cells #[.int .i64 k, .int .i64 l, .string v] 23)) := (Below.refl _ _).alloc (Nat.le_refl _) _
  have HB0 := Lib.hid hb0
  have HX := Lib.hid (Blk.new w 23 #[.int .i64 k, .int .i64 l, .string v])
  have HC := Lib.hid (fcanon_any k l v hs _ (tabs_on hT hb0 (tabs_size hT)) (hM.keep hb0 hM.lt) (Day.tab_on hD hb0))
  obtain ⟨r, hr⟩ : ∃ r, mayF k l v = r := ⟨_, rfl⟩
  rcases canonV_cases k l v with ⟨e, he, h1, h2⟩ | ⟨t, h1, h2⟩
  · rw [hr] at h2 ⊢
    rw [h1] at HC
    have d : (e == 0) = false := by simpa using he
    subst h2
    clear hb0 hT hM hD h1 hr he
    go_enter Tryd.func8, Tryd.ntmps8
    go_wp2_with (go_at_call 9; (with_reducible refine (HC.out).mono ?_); rintro e w3 ⟨rfl, hb⟩; have HX3 := Lib.hid (HX.out.below hb HX.out.lt); have HB3 := Lib.hid (HB0.out.trans (hb.mono HB0.out.size)); clear hb)
    go_ret
    exact ⟨rfl, HB3.out.alloc HB3.out.size _⟩
  · rw [hr] at h2 ⊢
    rw [h1] at HC
    cases hq : (t.toList == v.toList)
    all_goals (
      rw [hq] at h2
      subst h2
      clear hb0 hT hM hD h1 hr
      go_enter Tryd.func8, Tryd.ntmps8
      go_wp2_with (go_at_call 9; (with_reducible refine (HC.out).mono ?_); rintro e w3 ⟨rfl, hb⟩; have HX3 := Lib.hid (HX.out.below hb HX.out.lt); have a0 := ((HX3.out.alloc (.cells #[.int .i64 k, .int .i64 l, .string t] 23)).cell 0); have a1 := ((HX3.out.alloc (.cells #[.int .i64 k, .int .i64 l, .string t] 23)).cell 1); have a2 := ((HX3.out.alloc (.cells #[.int .i64 k, .int .i64 l, .string t] 23)).cell 2); have HB3 := Lib.hid (HB0.out.trans (hb.mono HB0.out.size)); clear hb)
      go_ret
      exact ⟨rfl, HB3.out.alloc HB3.out.size _⟩)
end Go.Proofs.YthknkglhppngoaaDoor
