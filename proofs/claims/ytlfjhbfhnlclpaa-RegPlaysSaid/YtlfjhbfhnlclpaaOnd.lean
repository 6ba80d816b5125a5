/- Trees in memory (values: Int): balance. -/
import Derived.Test.YtlfjhbfhnlclpaaOnb
import Derived.Test.YtlfjhbfhnlclpaaOnc
namespace Go.Proofs.Ytlfjhbfhnlclpaa.ON
open Go.RowKit
open Go.Lib
set_option linter.unusedVariables false
set_option linter.unusedSimpArgs false
set_option maxRecDepth 100000
set_option maxHeartbeats 4000000 in
theorem bal_any {w : World} {l r : T} {pl pr : Option Addr} {b : Nat} {k : ByteArray} {v : Int} (hl : IsT w l pl) (hn : Nd w b k v) (hr : IsT w r pr) (hs : l.size + r.size ≤ 100000) :
    Calls Try.prog 58 #[.pointer pl, .pointer (some ⟨b, 0, none⟩), .pointer pr] w fun e w' => ∃ p, e = .returned (.pointer p) ∧ IsT w' (Tr.bal l k v r) p ∧ Below w.heap.size w w' := by
  have HS1 := Lib.hid (size_any hl)
  have HS2 := Lib.hid (size_any hr)
  have HJ := Lib.hid (join_any hl hn hr (by omega))
  have HTL := Lib.hid (fun h => turnL_any hl hn hr hs h)
  have HTR := Lib.hid (fun h => turnR_any hl hn hr hs h)
  have HE := Lib.hid (show Tr.bal l k v r = if l.size + r.size < 2 then .node k v l r else if 3 * l.size < r.size then Tr.turnL l k v r else if 3 * r.size < l.size then Tr.turnR l k v r else .node k v l r from rfl)
  obtain ⟨X, hX⟩ : ∃ X, Tr.bal l k v r = X := ⟨_, rfl⟩
  rw [hX] at HE ⊢
  obtain ⟨m, hm⟩ : ∃ m, l.size = m := ⟨_, rfl⟩
  obtain ⟨n, hn2⟩ : ∃ n, r.size = n := ⟨_, rfl⟩
  rw [hm, hn2] at HE hs
  rw [hm] at HS1 HTR
  rw [hn2] at HS2 HTL
  have i0 : IntKind.i64.wrap ((m : Int) + (n : Int)) = (m : Int) + (n : Int) := IntWalk.i64_in _ (by omega)
  have i1 : IntKind.i64.wrap (3 * (m : Int)) = 3 * (m : Int) := IntWalk.i64_in _ (by omega)
  have i2 : IntKind.i64.wrap (3 * (n : Int)) = 3 * (n : Int) := IntWalk.i64_in _ (by omega)
  clear hl hn hr hX hm hn2
  go_enter Try.func58, Try.ntmps58
  go_wp2_with fail
  refine HS1.out.mono ?_
  rintro _ wz ⟨rfl, hw0⟩
  replace hw0 := hw0.symm
  subst hw0
  go_wp2_with fail
  refine HS2.out.mono ?_
  rintro _ wz ⟨rfl, hw0⟩
  replace hw0 := hw0.symm
  subst hw0
  by_cases h1 : m + n < 2
  · have hX := HE.out
    rw [if_pos h1] at hX
    have h1I : (m : Int) + (n : Int) < 2 := by omega
    have HX := Lib.hid hX
    clear hX
    go_wp2_with fail
    refine HJ.out.mono ?_
    rintro _ w1 ⟨p, rfl, ht, hb⟩
    have HT := Lib.hid ht
    have HB := Lib.hid hb
    clear ht hb
    go_wp2
    go_ret
    exact ⟨_, rfl, by rw [HX.out]; exact HT.out, HB.out⟩
  · have h1I : ¬ (m : Int) + (n : Int) < 2 := by omega
    by_cases h2 : 3 * m < n
    · have hX := HE.out
      rw [if_neg h1, if_pos h2] at hX
      have h2I : 3 * (m : Int) < (n : Int) := by omega
      have HX := Lib.hid hX
      have HJ2 := Lib.hid (HTL.out (by omega))
      clear hX
      go_wp2_with fail
      refine HJ2.out.mono ?_
      rintro _ w1 ⟨p, rfl, ht, hb⟩
      have HT := Lib.hid ht
      have HB := Lib.hid hb
      clear ht hb
      go_wp2
      go_ret
      exact ⟨_, rfl, by rw [HX.out]; exact HT.out, HB.out⟩
    · have h2I : ¬ 3 * (m : Int) < (n : Int) := by omega
      by_cases h3 : 3 * n < m
      · have hX := HE.out
        rw [if_neg h1, if_neg h2, if_pos h3] at hX
        have h3I : 3 * (n : Int) < (m : Int) := by omega
        have HX := Lib.hid hX
        have HJ2 := Lib.hid (HTR.out (by omega))
        clear hX
        go_wp2_with fail
        refine HJ2.out.mono ?_
        rintro _ w1 ⟨p, rfl, ht, hb⟩
        have HT := Lib.hid ht
        have HB := Lib.hid hb
        clear ht hb
        go_wp2
        go_ret
        exact ⟨_, rfl, by rw [HX.out]; exact HT.out, HB.out⟩
      · have hX := HE.out
        rw [if_neg h1, if_neg h2, if_neg h3] at hX
        have h3I : ¬ 3 * (n : Int) < (m : Int) := by omega
        have HX := Lib.hid hX
        clear hX
        go_wp2_with fail
        refine HJ.out.mono ?_
        rintro _ w1 ⟨p, rfl, ht, hb⟩
        have HT := Lib.hid ht
        have HB := Lib.hid hb
        clear ht hb
        go_wp2
        go_ret
        exact ⟨_, rfl, by rw [HX.out]; exact HT.out, HB.out⟩
end Go.Proofs.Ytlfjhbfhnlclpaa.ON
