/- Addresses: which is one; which are the same; what is kept. -/
import Derived.Test.YthknkglhppngoaaDoorMp
import Derived.Deep.RegionWith
namespace Go.Proofs.YthknkglhppngoaaDoor
open Go.RowKit
open Go.Lib hiding intOf
set_option linter.unusedVariables false
set_option maxRecDepth 20000
set_option maxHeartbeats 1000000 in
theorem isMail_any (s : ByteArray) (hs : s.size ≤ 1000000) (w : World) (hM : Mx w) : Calls Tryd.prog 27 #[.string s] w fun e w' => e = .returned (.bool (mailB s.data.toList)) ∧ Below w.heap.size w w' := by
  have hP := parts_any s hs w hM
  have ho := parts_ok s
  obtain ⟨⟨p, q, b⟩, hr⟩ : ∃ r, partsS s = r := ⟨_, rfl⟩
  rw [hr] at hP ho
  simp only at hP ho
  rw [← ho]
  have HP := Lib.hid hP
  clear hP ho hr
  go_enter Tryd.func27, Tryd.ntmps27
  go_wp2_with (go_at_call 44; (with_reducible refine (HP.out).mono ?_); rintro e w1 ⟨rfl, h1⟩; have HB1 := Lib.hid h1; clear h1)
  go_ret
  exact ⟨rfl, HB1.out⟩
def sameB (a b : ByteArray) : Bool := mailB a.data.toList && mailB b.data.toList && ((lowS a).toList == (lowS b).toList)
theorem last_range (t : ByteArray) : -1 ≤ lastIndexByte t 64 ∧ lastIndexByte t 64 < t.size := by
  unfold lastIndexByte
  rcases lastIdx_spec t 64 t.size with ⟨h, _⟩ | ⟨i, hi, h, _⟩ <;> rw [h] <;> omega
theorem tabs_on {B : Nat} {w w' : World} (h : Tabs w) (hb : Below B w w') (h2 : 1 < B ∧ 2 < B) : Tabs w' := by
  obtain ⟨h3, h4⟩ := h2
  refine ⟨fun c hc => ?_, fun i hi => ⟨?_, ?_⟩⟩
  · have := h.1 c hc
    simp only [World.cell?] at this ⊢
    rw [hb.block 1 (by omega)]; exact this
  · have := (h.2 i hi).1
    simp only [World.cell?] at this ⊢
    rw [hb.block 2 (by omega)]; exact this
  · have := (h.2 i hi).2
    simp only [World.cell?] at this ⊢
    rw [hb.block 2 (by omega)]; exact this
theorem tabs_size {w : World} (h : Tabs w) : 1 < w.heap.size ∧ 2 < w.heap.size := by
  constructor
  · have h1 := h.1 0 (by decide)
    cases hh : w.heap[1]? with
    | none => simp [World.cell?, hh] at h1
    | some o => exact (Array.getElem?_eq_some_iff.1 hh).1
  · have h1 := (h.2 0 (by decide)).1
    cases hh : w.heap[2]? with
    | none => simp [World.cell?, hh] at h1
    | some o => exact (Array.getElem?_eq_some_iff.1 hh).1
theorem clean_le (s : ByteArray) (hs : s.size ≤ 1000000) : (cleanS s).1.size ≤ 64 := by
  unfold cleanS cleanOf
  repeat' split
  all_goals first | (show (squeezeS s).size ≤ 64; omega) | (show (0 : Nat) ≤ 64; omega)
set_option maxHeartbeats 4000000 in
theorem mcanon_any (s : ByteArray) (hs : s.size ≤ 1000000) (w : World) (hT : Tabs w) (hM : Mx w) : Calls Tryd.prog 19 #[.string s] w fun e w' => e = .returned (.tuple #[.string (mailS s).1, .int .i64 (mailS s).2]) ∧ Below w.heap.size w w' := by
  have hC := clean_any s hs w hT
  have htz := clean_le s hs
  have hlt := hM.lt
  obtain ⟨r, hr⟩ : ∃ r, mailS s = r := ⟨_, rfl⟩
  rw [hr]
  have hrr : r = mailOf (cleanS s).1 (cleanS s).2 := by rw [← hr]; rfl
  clear hr
  obtain ⟨⟨t, k⟩, ht⟩ : ∃ t, cleanS s = t := ⟨_, rfl⟩
  rw [ht] at hC htz hrr
  simp only at hC htz hrr
  have HC := Lib.hid hC
  have HB0 := Lib.hid (Below.refl w.heap.size w)
  have hLr := last_range t
  have HLI := Lib.hid (fun w => Tryd.strings_LastIndexByte t 64 (by omega) w)
  have hn0 : lowAt t = t.extract 0 (atN t) ++ lowS (t.extract (atN t) t.size) := rfl
  have hat : atN t = (lastIndexByte t 64 + 1).toNat := rfl
  obtain ⟨j, hj⟩ : ∃ j, lastIndexByte t 64 = j := ⟨_, rfl⟩
  rw [hj] at hLr hat
  have HLj := HLI.out
  rw [hj] at HLj
  obtain ⟨n, hn⟩ : ∃ n, atN t = n := ⟨_, rfl⟩
  rw [hn] at hn0 hat
  have hjn : j + 1 = (n : Int) := by omega
  have hnt : n ≤ t.size := by omega
  have hwn : IntKind.i64.wrap (n : Int) = (n : Int) := IntWalk.i64_in _ (by omega)
  have hn0I : 0 ≤ (n : Int) := by omega
  obtain ⟨u, hu⟩ : ∃ u, lowS (t.extract n t.size) = u := ⟨_, rfl⟩
  have hus : u.size = t.size - n := by rw [← hu]; show (lowL (t.extract n t.size).data.toList).toArray.size = _; unfold lowL; simp
  have hxz : (t.extract 0 n).size = n := by rw [ByteArray.size_extract]; omega
  have HF : Hid (∀ v, Below w.heap.size w v → Calls Tryd.prog 26 #[.string (t.extract n t.size)] v fun e v' => e = .returned (.string u) ∧ Below w.heap.size w v') :=
    Lib.hid fun v h => (fold_any (t.extract n t.size) (by rw [ByteArray.size_extract]; omega) v).mono (by rintro e v' ⟨rfl, h2⟩; exact ⟨by rw [hu], h.trans (h2.mono h.size)⟩)
  rw [hu] at hn0
  have HI : Hid (∀ v, Below w.heap.size w v → Calls Tryd.prog 27 #[.string (t.extract 0 n ++ u)] v fun e v' => e = .returned (.bool (mailB (lowAt t).data.toList)) ∧ Below w.heap.size w v') :=
    Lib.hid fun v h => (isMail_any (t.extract 0 n ++ u) (by rw [ByteArray.size_append]; omega) v (hM.keep h hlt)).mono (by rintro e v' ⟨rfl, h2⟩; exact ⟨by rw [hn0], h.trans (h2.mono h.size)⟩)
  have HR := Lib.hid (show r = if k = 0 then (if mailB (lowAt t).data.toList = true then (t.extract 0 n ++ u, 0) else (⟨#[]⟩, 1)) else (⟨#[]⟩, k) by rw [hrr]; unfold mailOf; rw [hn0])
  obtain ⟨b, hb⟩ : ∃ b, mailB (lowAt t).data.toList = b := ⟨_, rfl⟩
  rw [hb] at HI HR
  have HLJ := Lib.hid HLj
  have htI : (t.size : Int) ≤ 64 := by omega
  have huI : (u.size : Int) ≤ 64 := by omega
  have hxI : ((t.extract 0 n).size : Int) ≤ 64 := by omega
  have hntI : (n : Int) ≤ (t.size : Int) := by omega
  clear HLj hC ht hrr HLI hn0 hat hj hn hu hb hus hxz
  by_cases hk : k = 0
  · subst hk
    have HR2 := Lib.hid (show r = if b = true then (t.extract 0 n ++ u, 0) else (⟨#[]⟩, 1) by rw [HR.out]; rfl)
    clear HR
    cases b with
    | true =>
      have H0 := Lib.hid (show r = (t.extract 0 n ++ u, 0) by rw [HR2.out]; rfl)
      go_enter Tryd.func19, Tryd.ntmps19
      go_wp2_with (first | (go_at_call 20; (with_reducible refine (HC.out).mono ?_); rintro e v1 ⟨rfl, hb⟩; have HB1 := Lib.hid hb; clear hb) | (go_at_call 25; (with_reducible refine (HLJ.out _).mono ?_); rintro e v2 ⟨rfl, hw⟩; replace hw := hw.symm; subst hw))
      go_region_with (go_at_call 26; (with_reducible refine (HF.out _ (by first | exact HB1.out | exact HB1.out.drew | exact HB1.out.drew.drew)).mono ?_); rintro e v3 ⟨rfl, hb⟩; have HB3 := Lib.hid hb; clear hb)
      go_wp2_with (go_at_call 27; (with_reducible refine (HI.out _ HB3.out).mono ?_); rintro e v4 ⟨rfl, hb⟩; have HB4 := Lib.hid hb; clear hb)
      go_ret2
      exact ⟨by rw [H0.out]; rfl, HB4.out⟩
    | false =>
      have H0 := Lib.hid (show r = (⟨#[]⟩, 1) by rw [HR2.out]; rfl)
      go_enter Tryd.func19, Tryd.ntmps19
      go_wp2_with (first | (go_at_call 20; (with_reducible refine (HC.out).mono ?_); rintro e v1 ⟨rfl, hb⟩; have HB1 := Lib.hid hb; clear hb) | (go_at_call 25; (with_reducible refine (HLJ.out _).mono ?_); rintro e v2 ⟨rfl, hw⟩; replace hw := hw.symm; subst hw))
      go_region_with (go_at_call 26; (with_reducible refine (HF.out _ (by first | exact HB1.out | exact HB1.out.drew | exact HB1.out.drew.drew)).mono ?_); rintro e v3 ⟨rfl, hb⟩; have HB3 := Lib.hid hb; clear hb)
      go_wp2_with (go_at_call 27; (with_reducible refine (HI.out _ HB3.out).mono ?_); rintro e v4 ⟨rfl, hb⟩; have HB4 := Lib.hid hb; clear hb)
      go_ret2
      exact ⟨by rw [H0.out]; rfl, HB4.out⟩
  · have hk' : (k != 0) = true := by simpa using hk
    have H0 := Lib.hid (show r = (⟨#[]⟩, k) by rw [HR.out, if_neg hk])
    clear hk
    go_enter Tryd.func19, Tryd.ntmps19
    go_wp2_with (go_at_call 20; (with_reducible refine (HC.out).mono ?_); rintro e w1 ⟨rfl, h1⟩; have HB1 := Lib.hid h1; clear h1)
    go_ret2
    exact ⟨by rw [H0.out]; rfl, HB1.out⟩
end Go.Proofs.YthknkglhppngoaaDoor
