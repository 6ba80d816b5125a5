/- FoldOrders: its walk. -/
import Derived.Test.YtbigenlmbomoeaaDoorFi
namespace Go.Proofs.YtbigenlmbomoeaaDoor
open Go.RowKit
set_option linter.unusedVariables false
set_option maxRecDepth 100000
theorem tabs_size {w : World} (h : Tabs w) : 2 ≤ w.heap.size := by
  have h1 := (h.2 0 (by decide)).1
  cases hh : w.heap[1]? with
  | none => simp [World.cell?, hh] at h1
  | some o => have := (Array.getElem?_eq_some_iff.1 hh).1; omega
/-- Less, wherever the walk stands. -/
theorem less_on {w : World} (a b : ByteArray) (ha : a.size ≤ 1000000) (hb : b.size ≤ 1000000) (r : Bool) (hr : lessS a b = r) (v : World) (h : Below w.heap.size w v) : Calls Tryd.prog 12 #[.string a, .string b] v fun e v' => e = .returned (.bool r) ∧ Below w.heap.size w v' := by
  refine (less_any a b ha hb v).mono ?_
  rintro e v' ⟨rfl, h2⟩
  exact ⟨by rw [hr], h.trans (h2.mono h.size)⟩
theorem fold_on {w : World} (a : ByteArray) (ha : a.size ≤ 1000000) (r : ByteArray) (hr : lowS a = r) (v : World) (h : Below w.heap.size w v) : Calls Tryd.prog 10 #[.string a] v fun e v' => e = .returned (.string r) ∧ Below w.heap.size w v' := by
  refine (fold_any a ha v).mono ?_
  rintro e v' ⟨rfl, h2⟩
  exact ⟨by rw [hr], h.trans (h2.mono h.size)⟩
theorem first_on {w : World} (hT : Tabs w) (v : World) (h : Below w.heap.size w v) : Calls Tryd.prog 7 #[] v fun e v' => e = .returned (.bool true) ∧ Below w.heap.size w v' := by
  have h3 := tabs_on hT h (tabs_size hT)
  refine (first_any v h3 (tabs_size h3)).mono ?_
  rintro e v' ⟨rfl, h2⟩
  exact ⟨rfl, h.trans (h2.mono h.size)⟩
set_option maxHeartbeats 2000000 in
theorem orders_big (w : World) (hT : Tabs w) (a b c : ByteArray) (h : 100 < a.size ∨ 100 < b.size ∨ 100 < c.size) : Calls Tryd.prog 5 #[.string a, .string b, .string c] w fun e w' => e = .returned (.bool true) ∧ Below w.heap.size w w' := by
  have HF := Lib.hid (first_on hT)
  have HB0 := Lib.hid (Below.refl w.heap.size w)
  clear hT
  rcases (show (a.size : Int) > 100 ∨ ((a.size : Int) ≤ 100 ∧ (b.size : Int) > 100) ∨ ((a.size : Int) ≤ 100 ∧ (b.size : Int) ≤ 100 ∧ (c.size : Int) > 100) by omega) with h1 | ⟨h1, h2⟩ | ⟨h1, h2, h3⟩
  all_goals (
    clear h
    go_enter Tryd.func5, Tryd.ntmps5
    go_wp2_with (go_at_call 7; refine (HF.out _ HB0.out).mono ?_)
    rintro e v1 ⟨rfl, hb⟩
    have HB1 := Lib.hid hb
    clear hb
    go_wp2_with (go_at_call 7; refine (HF.out _ HB1.out).mono ?_)
    rintro e v2 ⟨rfl, hb⟩
    have HB2 := Lib.hid hb
    clear hb
    go_wp2
    go_ret
    exact ⟨rfl, HB2.out⟩)
set_option maxHeartbeats 8000000 in
theorem orders_eq (w : World) (hT : Tabs w) (a b c f g : ByteArray) (ha : (a.size : Int) ≤ 100) (hb : (b.size : Int) ≤ 100) (hc : (c.size : Int) ≤ 100) (hf : (f.size : Int) = (a.size : Int))
    (e1 : lessS a b = false) (e2 : lessS b a = false) (e3 : lessS a a = false) (hq : (a.toList == b.toList) = true)
    (f1 : lowS a = f) (f2 : lowS f = f) (f3 : lowS b = g) (h1 : ((a.toList == f.toList) = true) ∨ ((a.toList == f.toList) = false ∧ lessS a f = true) ∨ ((a.toList == f.toList) = false ∧ lessS a f = false ∧ lessS f a = true))
    (h2 : ((g.toList == f.toList) = true ∧ Op.bytesLess a.toList b.toList = false) ∨ (g.toList == f.toList) = false) :
    Calls Tryd.prog 5 #[.string a, .string b, .string c] w fun e w' => e = .returned (.bool true) ∧ Below w.heap.size w w' := by
  have HF := Lib.hid (first_on hT)
  have HB0 := Lib.hid (Below.refl w.heap.size w)
  have ff : (f.toList == f.toList) = true := by simp
  have HAB := Lib.hid (fun v => less_on (w := w) a b (by omega) (by omega) _ e1 v)
  have HBA := Lib.hid (fun v => less_on (w := w) b a (by omega) (by omega) _ e2 v)
  have HAA := Lib.hid (fun v => less_on (w := w) a a (by omega) (by omega) _ e3 v)
  have HAF := Lib.hid (fun v r hr => less_on (w := w) a f (by omega) (by omega) r hr v)
  have HFA := Lib.hid (fun v r hr => less_on (w := w) f a (by omega) (by omega) r hr v)
  have HLA := Lib.hid (fun v => fold_on (w := w) a (by omega) _ f1 v)
  have HLF := Lib.hid (fun v => fold_on (w := w) f (by omega) _ f2 v)
  have HLB := Lib.hid (fun v => fold_on (w := w) b (by omega) _ f3 v)
  have H1 := Lib.hid h1
  have H2 := Lib.hid h2
  clear hT e1 e2 e3 f1 f2 f3 h1 h2
  go_enter Tryd.func5, Tryd.ntmps5
  go_wp2_with (go_at_call 7; refine (HF.out _ HB0.out).mono ?_)
  rintro e v1 ⟨rfl, hb⟩
  have HB1 := Lib.hid hb
  clear hb
  go_wp2_with (go_at_call 12; refine (HAB.out _ HB1.out).mono ?_)
  rintro e v2 ⟨rfl, hb⟩
  have HB2 := Lib.hid hb
  clear hb
  go_wp2_with (go_at_call 12; refine (HBA.out _ HB2.out).mono ?_)
  rintro e v3 ⟨rfl, hb⟩
  have HB3 := Lib.hid hb
  clear hb
  go_wp2_with (go_at_call 12; refine (HAA.out _ HB3.out).mono ?_)
  rintro e v4 ⟨rfl, hb⟩
  have HB4 := Lib.hid hb
  clear hb
  go_wp2_with (go_at_call 10; refine (HLA.out _ HB4.out).mono ?_)
  rintro e v5 ⟨rfl, hb⟩
  have HB5 := Lib.hid hb
  clear hb
  go_wp2_with (go_at_call 10; refine (HLF.out _ HB5.out).mono ?_)
  rintro e v6 ⟨rfl, hb⟩
  have HB6 := Lib.hid hb
  clear hb
  rcases H1.out with p1 | ⟨p1, p2⟩ | ⟨p1, p2, p3⟩
  · go_wp2_with (go_at_call 10; refine (HLB.out _ HB6.out).mono ?_)
    rintro e v7 ⟨rfl, hb⟩
    have HB7 := Lib.hid hb
    clear hb
    rcases H2.out with ⟨r1, r2⟩ | r1
    all_goals (
      go_wp2
      go_ret
      exact ⟨rfl, HB7.out⟩)
  · have q2 := Lib.hid (fun v => HAF.out v _ p2)
    clear p2
    go_wp2_with (go_at_call 12; refine (q2.out _ HB6.out).mono ?_)
    rintro e v7 ⟨rfl, hb⟩
    have HB7 := Lib.hid hb
    clear hb
    go_wp2_with (go_at_call 10; refine (HLB.out _ HB7.out).mono ?_)
    rintro e v8 ⟨rfl, hb⟩
    have HB8 := Lib.hid hb
    clear hb
    rcases H2.out with ⟨r1, r2⟩ | r1
    all_goals (
      go_wp2
      go_ret
      exact ⟨rfl, HB8.out⟩)
  · have q2 := Lib.hid (fun v => HAF.out v _ p2)
    have q3 := Lib.hid (fun v => HFA.out v _ p3)
    clear p2 p3
    go_wp2_with (go_at_call 12; refine (q2.out _ HB6.out).mono ?_)
    rintro e v7 ⟨rfl, hb⟩
    have HB7 := Lib.hid hb
    clear hb
    go_wp2_with (go_at_call 12; refine (q3.out _ HB7.out).mono ?_)
    rintro e v8 ⟨rfl, hb⟩
    have HB8 := Lib.hid hb
    clear hb
    go_wp2_with (go_at_call 10; refine (HLB.out _ HB8.out).mono ?_)
    rintro e v9 ⟨rfl, hb⟩
    have HB9 := Lib.hid hb
    clear hb
    rcases H2.out with ⟨r1, r2⟩ | r1
    all_goals (
      go_wp2
      go_ret
      exact ⟨rfl, HB9.out⟩)
set_option maxHeartbeats 8000000 in
theorem orders_lt1 (w : World) (hT : Tabs w) (a b c f g : ByteArray) (ha : (a.size : Int) ≤ 100) (hb : (b.size : Int) ≤ 100) (hc : (c.size : Int) ≤ 100) (hf : (f.size : Int) = (a.size : Int))
    (e1 : lessS a b = true) (e2 : lessS b a = false) (e3 : lessS a a = false) (hq : (a.toList == b.toList) = false) (e4 : lessS b c = true) (e5 : lessS a c = true)
    (f1 : lowS a = f) (f2 : lowS f = f) (f3 : lowS b = g) (h1 : ((a.toList == f.toList) = true) ∨ ((a.toList == f.toList) = false ∧ lessS a f = true) ∨ ((a.toList == f.toList) = false ∧ lessS a f = false ∧ lessS f a = true))
    (h2 : ((g.toList == f.toList) = true ∧ Op.bytesLess a.toList b.toList = true) ∨ (g.toList == f.toList) = false) :
    Calls Tryd.prog 5 #[.string a, .string b, .string c] w fun e w' => e = .returned (.bool true) ∧ Below w.heap.size w w' := by
  have HF := Lib.hid (first_on hT)
  have HB0 := Lib.hid (Below.refl w.heap.size w)
  have ff : (f.toList == f.toList) = true := by simp
  have HAB := Lib.hid (fun v => less_on (w := w) a b (by omega) (by omega) _ e1 v)
  have HBA := Lib.hid (fun v => less_on (w := w) b a (by omega) (by omega) _ e2 v)
  have HAA := Lib.hid (fun v => less_on (w := w) a a (by omega) (by omega) _ e3 v)
  have HBC := Lib.hid (fun v => less_on (w := w) b c (by omega) (by omega) _ e4 v)
  have HAC := Lib.hid (fun v => less_on (w := w) a c (by omega) (by omega) _ e5 v)
  have HAF := Lib.hid (fun v r hr => less_on (w := w) a f (by omega) (by omega) r hr v)
  have HFA := Lib.hid (fun v r hr => less_on (w := w) f a (by omega) (by omega) r hr v)
  have HLA := Lib.hid (fun v => fold_on (w := w) a (by omega) _ f1 v)
  have HLF := Lib.hid (fun v => fold_on (w := w) f (by omega) _ f2 v)
  have HLB := Lib.hid (fun v => fold_on (w := w) b (by omega) _ f3 v)
  have H1 := Lib.hid h1
  have H2 := Lib.hid h2
  clear hT e1 e2 e3 f1 f2 f3 h1 h2 e4 e5
  go_enter Tryd.func5, Tryd.ntmps5
  go_wp2_with (go_at_call 7; refine (HF.out _ HB0.out).mono ?_)
  rintro e v1 ⟨rfl, hb⟩
  have HB1 := Lib.hid hb
  clear hb
  go_wp2_with (go_at_call 12; refine (HAB.out _ HB1.out).mono ?_)
  rintro e v2 ⟨rfl, hb⟩
  have HB2 := Lib.hid hb
  clear hb
  go_wp2_with (go_at_call 12; refine (HBA.out _ HB2.out).mono ?_)
  rintro e v3 ⟨rfl, hb⟩
  have HB3 := Lib.hid hb
  clear hb
  go_wp2_with (go_at_call 12; refine (HAA.out _ HB3.out).mono ?_)
  rintro e v4 ⟨rfl, hb⟩
  have HB4 := Lib.hid hb
  clear hb
  go_wp2_with (go_at_call 12; refine (HBC.out _ HB4.out).mono ?_)
  rintro e v5 ⟨rfl, hb⟩
  have HB5 := Lib.hid hb
  clear hb
  go_wp2_with (go_at_call 12; refine (HAC.out _ HB5.out).mono ?_)
  rintro e v6 ⟨rfl, hb⟩
  have HB6 := Lib.hid hb
  clear hb
  go_wp2_with (go_at_call 10; refine (HLA.out _ HB6.out).mono ?_)
  rintro e v7 ⟨rfl, hb⟩
  have HB7 := Lib.hid hb
  clear hb
  go_wp2_with (go_at_call 10; refine (HLF.out _ HB7.out).mono ?_)
  rintro e v8 ⟨rfl, hb⟩
  have HB8 := Lib.hid hb
  clear hb
  rcases H1.out with p1 | ⟨p1, p2⟩ | ⟨p1, p2, p3⟩
  · go_wp2_with (go_at_call 10; refine (HLB.out _ HB8.out).mono ?_)
    rintro e v9 ⟨rfl, hb⟩
    have HB9 := Lib.hid hb
    clear hb
    rcases H2.out with ⟨r1, r2⟩ | r1
    all_goals (
      go_wp2
      go_ret
      exact ⟨rfl, HB9.out⟩)
  · have q2 := Lib.hid (fun v => HAF.out v _ p2)
    clear p2
    go_wp2_with (go_at_call 12; refine (q2.out _ HB8.out).mono ?_)
    rintro e v9 ⟨rfl, hb⟩
    have HB9 := Lib.hid hb
    clear hb
    go_wp2_with (go_at_call 10; refine (HLB.out _ HB9.out).mono ?_)
    rintro e v10 ⟨rfl, hb⟩
    have HB10 := Lib.hid hb
    clear hb
    rcases H2.out with ⟨r1, r2⟩ | r1
    all_goals (
      go_wp2
      go_ret
      exact ⟨rfl, HB10.out⟩)
  · have q2 := Lib.hid (fun v => HAF.out v _ p2)
    have q3 := Lib.hid (fun v => HFA.out v _ p3)
    clear p2 p3
    go_wp2_with (go_at_call 12; refine (q2.out _ HB8.out).mono ?_)
    rintro e v9 ⟨rfl, hb⟩
    have HB9 := Lib.hid hb
    clear hb
    go_wp2_with (go_at_call 12; refine (q3.out _ HB9.out).mono ?_)
    rintro e v10 ⟨rfl, hb⟩
    have HB10 := Lib.hid hb
    clear hb
    go_wp2_with (go_at_call 10; refine (HLB.out _ HB10.out).mono ?_)
    rintro e v11 ⟨rfl, hb⟩
    have HB11 := Lib.hid hb
    clear hb
    rcases H2.out with ⟨r1, r2⟩ | r1
    all_goals (
      go_wp2
      go_ret
      exact ⟨rfl, HB11.out⟩)
set_option maxHeartbeats 8000000 in
theorem orders_lt0 (w : World) (hT : Tabs w) (a b c f g : ByteArray) (ha : (a.size : Int) ≤ 100) (hb : (b.size : Int) ≤ 100) (hc : (c.size : Int) ≤ 100) (hf : (f.size : Int) = (a.size : Int))
    (e1 : lessS a b = true) (e2 : lessS b a = false) (e3 : lessS a a = false) (hq : (a.toList == b.toList) = false) (e4 : lessS b c = false)
    (f1 : lowS a = f) (f2 : lowS f = f) (f3 : lowS b = g) (h1 : ((a.toList == f.toList) = true) ∨ ((a.toList == f.toList) = false ∧ lessS a f = true) ∨ ((a.toList == f.toList) = false ∧ lessS a f = false ∧ lessS f a = true))
    (h2 : ((g.toList == f.toList) = true ∧ Op.bytesLess a.toList b.toList = true) ∨ (g.toList == f.toList) = false) :
    Calls Tryd.prog 5 #[.string a, .string b, .string c] w fun e w' => e = .returned (.bool true) ∧ Below w.heap.size w w' := by
  have HF := Lib.hid (first_on hT)
  have HB0 := Lib.hid (Below.refl w.heap.size w)
  have ff : (f.toList == f.toList) = true := by simp
  have HAB := Lib.hid (fun v => less_on (w := w) a b (by omega) (by omega) _ e1 v)
  have HBA := Lib.hid (fun v => less_on (w := w) b a (by omega) (by omega) _ e2 v)
  have HAA := Lib.hid (fun v => less_on (w := w) a a (by omega) (by omega) _ e3 v)
  have HBC := Lib.hid (fun v => less_on (w := w) b c (by omega) (by omega) _ e4 v)
  have HAF := Lib.hid (fun v r hr => less_on (w := w) a f (by omega) (by omega) r hr v)
  have HFA := Lib.hid (fun v r hr => less_on (w := w) f a (by omega) (by omega) r hr v)
  have HLA := Lib.hid (fun v => fold_on (w := w) a (by omega) _ f1 v)
  have HLF := Lib.hid (fun v => fold_on (w := w) f (by omega) _ f2 v)
  have HLB := Lib.hid (fun v => fold_on (w := w) b (by omega) _ f3 v)
  have H1 := Lib.hid h1
  have H2 := Lib.hid h2
  clear hT e1 e2 e3 f1 f2 f3 h1 h2 e4
  go_enter Tryd.func5, Tryd.ntmps5
  go_wp2_with (go_at_call 7; refine (HF.out _ HB0.out).mono ?_)
  rintro e v1 ⟨rfl, hb⟩
  have HB1 := Lib.hid hb
  clear hb
  go_wp2_with (go_at_call 12; refine (HAB.out _ HB1.out).mono ?_)
  rintro e v2 ⟨rfl, hb⟩
  have HB2 := Lib.hid hb
  clear hb
  go_wp2_with (go_at_call 12; refine (HBA.out _ HB2.out).mono ?_)
  rintro e v3 ⟨rfl, hb⟩
  have HB3 := Lib.hid hb
  clear hb
  go_wp2_with (go_at_call 12; refine (HAA.out _ HB3.out).mono ?_)
  rintro e v4 ⟨rfl, hb⟩
  have HB4 := Lib.hid hb
  clear hb
  go_wp2_with (go_at_call 12; refine (HBC.out _ HB4.out).mono ?_)
  rintro e v5 ⟨rfl, hb⟩
  have HB5 := Lib.hid hb
  clear hb
  go_wp2_with (go_at_call 10; refine (HLA.out _ HB5.out).mono ?_)
  rintro e v6 ⟨rfl, hb⟩
  have HB6 := Lib.hid hb
  clear hb
  go_wp2_with (go_at_call 10; refine (HLF.out _ HB6.out).mono ?_)
  rintro e v7 ⟨rfl, hb⟩
  have HB7 := Lib.hid hb
  clear hb
  rcases H1.out with p1 | ⟨p1, p2⟩ | ⟨p1, p2, p3⟩
  · go_wp2_with (go_at_call 10; refine (HLB.out _ HB7.out).mono ?_)
    rintro e v8 ⟨rfl, hb⟩
    have HB8 := Lib.hid hb
    clear hb
    rcases H2.out with ⟨r1, r2⟩ | r1
    all_goals (
      go_wp2
      go_ret
      exact ⟨rfl, HB8.out⟩)
  · have q2 := Lib.hid (fun v => HAF.out v _ p2)
    clear p2
    go_wp2_with (go_at_call 12; refine (q2.out _ HB7.out).mono ?_)
    rintro e v8 ⟨rfl, hb⟩
    have HB8 := Lib.hid hb
    clear hb
    go_wp2_with (go_at_call 10; refine (HLB.out _ HB8.out).mono ?_)
    rintro e v9 ⟨rfl, hb⟩
    have HB9 := Lib.hid hb
    clear hb
    rcases H2.out with ⟨r1, r2⟩ | r1
    all_goals (
      go_wp2
      go_ret
      exact ⟨rfl, HB9.out⟩)
  · have q2 := Lib.hid (fun v => HAF.out v _ p2)
    have q3 := Lib.hid (fun v => HFA.out v _ p3)
    clear p2 p3
    go_wp2_with (go_at_call 12; refine (q2.out _ HB7.out).mono ?_)
    rintro e v8 ⟨rfl, hb⟩
    have HB8 := Lib.hid hb
    clear hb
    go_wp2_with (go_at_call 12; refine (q3.out _ HB8.out).mono ?_)
    rintro e v9 ⟨rfl, hb⟩
    have HB9 := Lib.hid hb
    clear hb
    go_wp2_with (go_at_call 10; refine (HLB.out _ HB9.out).mono ?_)
    rintro e v10 ⟨rfl, hb⟩
    have HB10 := Lib.hid hb
    clear hb
    rcases H2.out with ⟨r1, r2⟩ | r1
    all_goals (
      go_wp2
      go_ret
      exact ⟨rfl, HB10.out⟩)
set_option maxHeartbeats 8000000 in
theorem orders_gt (w : World) (hT : Tabs w) (a b c f g : ByteArray) (ha : (a.size : Int) ≤ 100) (hb : (b.size : Int) ≤ 100) (hc : (c.size : Int) ≤ 100) (hf : (f.size : Int) = (a.size : Int))
    (e1 : lessS a b = false) (e2 : lessS b a = true) (e3 : lessS a a = false) (hq : (a.toList == b.toList) = false)
    (f1 : lowS a = f) (f2 : lowS f = f) (f3 : lowS b = g) (h1 : ((a.toList == f.toList) = true) ∨ ((a.toList == f.toList) = false ∧ lessS a f = true) ∨ ((a.toList == f.toList) = false ∧ lessS a f = false ∧ lessS f a = true))
    (h2 : ((g.toList == f.toList) = true ∧ Op.bytesLess a.toList b.toList = false) ∨ (g.toList == f.toList) = false) :
    Calls Tryd.prog 5 #[.string a, .string b, .string c] w fun e w' => e = .returned (.bool true) ∧ Below w.heap.size w w' := by
  have HF := Lib.hid (first_on hT)
  have HB0 := Lib.hid (Below.refl w.heap.size w)
  have ff : (f.toList == f.toList) = true := by simp
  have HAB := Lib.hid (fun v => less_on (w := w) a b (by omega) (by omega) _ e1 v)
  have HBA := Lib.hid (fun v => less_on (w := w) b a (by omega) (by omega) _ e2 v)
  have HAA := Lib.hid (fun v => less_on (w := w) a a (by omega) (by omega) _ e3 v)
  have HAF := Lib.hid (fun v r hr => less_on (w := w) a f (by omega) (by omega) r hr v)
  have HFA := Lib.hid (fun v r hr => less_on (w := w) f a (by omega) (by omega) r hr v)
  have HLA := Lib.hid (fun v => fold_on (w := w) a (by omega) _ f1 v)
  have HLF := Lib.hid (fun v => fold_on (w := w) f (by omega) _ f2 v)
  have HLB := Lib.hid (fun v => fold_on (w := w) b (by omega) _ f3 v)
  have H1 := Lib.hid h1
  have H2 := Lib.hid h2
  clear hT e1 e2 e3 f1 f2 f3 h1 h2
  go_enter Tryd.func5, Tryd.ntmps5
  go_wp2_with (go_at_call 7; refine (HF.out _ HB0.out).mono ?_)
  rintro e v1 ⟨rfl, hb⟩
  have HB1 := Lib.hid hb
  clear hb
  go_wp2_with (go_at_call 12; refine (HAB.out _ HB1.out).mono ?_)
  rintro e v2 ⟨rfl, hb⟩
  have HB2 := Lib.hid hb
  clear hb
  go_wp2_with (go_at_call 12; refine (HBA.out _ HB2.out).mono ?_)
  rintro e v3 ⟨rfl, hb⟩
  have HB3 := Lib.hid hb
  clear hb
  go_wp2_with (go_at_call 12; refine (HAA.out _ HB3.out).mono ?_)
  rintro e v4 ⟨rfl, hb⟩
  have HB4 := Lib.hid hb
  clear hb
  go_wp2_with (go_at_call 10; refine (HLA.out _ HB4.out).mono ?_)
  rintro e v5 ⟨rfl, hb⟩
  have HB5 := Lib.hid hb
  clear hb
  go_wp2_with (go_at_call 10; refine (HLF.out _ HB5.out).mono ?_)
  rintro e v6 ⟨rfl, hb⟩
  have HB6 := Lib.hid hb
  clear hb
  rcases H1.out with p1 | ⟨p1, p2⟩ | ⟨p1, p2, p3⟩
  · go_wp2_with (go_at_call 10; refine (HLB.out _ HB6.out).mono ?_)
    rintro e v7 ⟨rfl, hb⟩
    have HB7 := Lib.hid hb
    clear hb
    rcases H2.out with ⟨r1, r2⟩ | r1
    all_goals (
      go_wp2
      go_ret
      exact ⟨rfl, HB7.out⟩)
  · have q2 := Lib.hid (fun v => HAF.out v _ p2)
    clear p2
    go_wp2_with (go_at_call 12; refine (q2.out _ HB6.out).mono ?_)
    rintro e v7 ⟨rfl, hb⟩
    have HB7 := Lib.hid hb
    clear hb
    go_wp2_with (go_at_call 10; refine (HLB.out _ HB7.out).mono ?_)
    rintro e v8 ⟨rfl, hb⟩
    have HB8 := Lib.hid hb
    clear hb
    rcases H2.out with ⟨r1, r2⟩ | r1
    all_goals (
      go_wp2
      go_ret
      exact ⟨rfl, HB8.out⟩)
  · have q2 := Lib.hid (fun v => HAF.out v _ p2)
    have q3 := Lib.hid (fun v => HFA.out v _ p3)
    clear p2 p3
    go_wp2_with (go_at_call 12; refine (q2.out _ HB6.out).mono ?_)
    rintro e v7 ⟨rfl, hb⟩
    have HB7 := Lib.hid hb
    clear hb
    go_wp2_with (go_at_call 12; refine (q3.out _ HB7.out).mono ?_)
    rintro e v8 ⟨rfl, hb⟩
    have HB8 := Lib.hid hb
    clear hb
    go_wp2_with (go_at_call 10; refine (HLB.out _ HB8.out).mono ?_)
    rintro e v9 ⟨rfl, hb⟩
    have HB9 := Lib.hid hb
    clear hb
    rcases H2.out with ⟨r1, r2⟩ | r1
    all_goals (
      go_wp2
      go_ret
      exact ⟨rfl, HB9.out⟩)
theorem foldOrders_walk (w : World) (hT : Tabs w) (a : ByteArray) (w0 : a.size ≤ maxLen) (b : ByteArray) (w1 : b.size ≤ maxLen) (c : ByteArray) (w2 : c.size ≤ maxLen) :
    Calls Tryd.prog 5 #[.string a, .string b, .string c] w fun e w' => e = .returned (.bool true) ∧ Below w.heap.size w w' := by
  by_cases hbig : 100 < a.size ∨ 100 < b.size ∨ 100 < c.size
  · exact orders_big w hT a b c hbig
  · have ha : (a.size : Int) ≤ 100 := by omega
    have hb : (b.size : Int) ≤ 100 := by omega
    have hc : (c.size : Int) ≤ 100 := by omega
    have hfs : ((lowS a).size : Int) = (a.size : Int) := by rw [lowS_size]
    have f2 : lowS (lowS a) = lowS a := lowS_lowS a
    have h1 : ((a.toList == (lowS a).toList) = true) ∨ ((a.toList == (lowS a).toList) = false ∧ lessS a (lowS a) = true) ∨ ((a.toList == (lowS a).toList) = false ∧ lessS a (lowS a) = false ∧ lessS (lowS a) a = true) := by
      by_cases e : a = lowS a
      · exact .inl (by rw [← e]; simp)
      · have e2 : (a.toList == (lowS a).toList) = false := by
          rw [beq_eq_false_iff_ne]; exact fun h => e (bs_ext (by rwa [toL, toL] at h))
        cases h3 : lessS a (lowS a) with
        | true => exact .inr (.inl ⟨e2, rfl⟩)
        | false =>
          rcases less_total a (lowS a) e with h4 | h4
          · rw [h3] at h4; cases h4
          · exact .inr (.inr ⟨e2, rfl, h4⟩)
    have h2 : ∀ x, lessS a b = x → (((lowS b).toList == (lowS a).toList) = true ∧ Op.bytesLess a.toList b.toList = x) ∨ ((lowS b).toList == (lowS a).toList) = false := by
      intro x hx
      by_cases e : lowS b = lowS a
      · exact .inl ⟨by rw [e]; simp, by rw [← hx, less_folded a b e]⟩
      · exact .inr (by rw [beq_eq_false_iff_ne]; exact fun h => e (bs_ext (by rwa [toL, toL] at h)))
    by_cases hab : a = b
    · subst hab
      exact orders_eq w hT a a c _ _ ha ha hc hfs (less_irr a) (less_irr a) (less_irr a) (by simp) rfl f2 rfl h1 (h2 _ (less_irr a))
    · have hq : (a.toList == b.toList) = false := by
        rw [beq_eq_false_iff_ne]; exact fun h => hab (bs_ext (by rwa [toL, toL] at h))
      rcases less_total a b hab with hx | hx
      · cases hu : lessS b c with
        | true => exact orders_lt1 w hT a b c _ _ ha hb hc hfs hx (less_asym _ _ hx) (less_irr a) hq hu (less_trans _ _ _ hx hu) rfl f2 rfl h1 (h2 _ hx)
        | false => exact orders_lt0 w hT a b c _ _ ha hb hc hfs hx (less_asym _ _ hx) (less_irr a) hq hu rfl f2 rfl h1 (h2 _ hx)
      · exact orders_gt w hT a b c _ _ ha hb hc hfs (less_asym _ _ hx) hx (less_irr a) hq rfl f2 rfl h1 (h2 _ (less_asym _ _ hx))
end Go.Proofs.YtbigenlmbomoeaaDoor
