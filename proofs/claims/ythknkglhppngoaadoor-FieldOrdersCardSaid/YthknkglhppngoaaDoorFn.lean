/- Lines of a contact: Line. -/
import Derived.Test.YthknkglhppngoaaDoorFm
import Derived.Deep.RegionWith
import Derived.Deep.QuietTactic
import Derived.BigQuiet
namespace Go.Proofs.YthknkglhppngoaaDoor
open Go.RowKit
open Go.Lib hiding intOf
set_option linter.unusedVariables false
set_option maxRecDepth 20000
attribute [local go_sem ↓] Go.wp_at_zero Go.wp_at_succ
def lineF (k l : Int) (v : ByteArray) : ByteArray := if mayF k l v = true then (headW k l ++ ⟨#[58]⟩) ++ v else ⟨#[]⟩
theorem head_size (k l : Int) : ((headW k l).size : Int) ≤ 9 := by
  unfold headW
  have h1 := kindW_size k
  have h2 := labelW_size l
  split
  · omega
  · have y : (⟨#[59]⟩ : ByteArray).size = 1 := rfl
    rw [ByteArray.size_append, ByteArray.size_append, y]; omega
set_option maxHeartbeats 4000000 in
theorem fline_any (k l : Int) (v : ByteArray) (hs : v.size ≤ 1000000) (w : World) (hT : Tabs w) (hM : Mx w) (hD : Day.Tab w.heap.size w) : Calls Tryd.prog 7 #[fieldV k l v] w fun e w' => e = .returned (.string (lineF k l v)) ∧ Below w.heap.size w w' := by
  have hb0 : Below w.heap.size w (w.alloc (.cells #[.int .i64 k, .int .i64 l, .string v] 23)) := (Below.refl _ _).alloc (Nat.le_refl _) _
  have HB0 := Lib.hid hb0
  have HX := Lib.hid (Blk.new w 23 #[.int .i64 k, .int .i64 l, .string v])
  have HC := Lib.hid (fmay_any k l v hs _ (tabs_on hT hb0 (tabs_size hT)) (hM.keep hb0 hM.lt) (Day.tab_on hD hb0))
  have HH := Lib.hid (fun w => head_any k l w)
  have hh := head_size k l
  have hsI : (v.size : Int) ≤ 1000000 := by omega
  have z : ((⟨#[58]⟩ : ByteArray).size : Int) = 1 := rfl
  obtain ⟨r, hr⟩ : ∃ r, lineF k l v = r := ⟨_, rfl⟩
  have HR := Lib.hid (show r = if mayF k l v = true then (headW k l ++ ⟨#[58]⟩) ++ v else ⟨#[]⟩ from hr.symm)
  rw [hr]
  obtain ⟨m, hm⟩ : ∃ m, mayF k l v = m := ⟨_, rfl⟩
  obtain ⟨A, hA⟩ : ∃ A, headW k l = A := ⟨_, rfl⟩
  rw [hm, hA] at HR
  rw [hm] at HC
  rw [hA] at HH hh
  have hA1 : ((A ++ (⟨#[58]⟩ : ByteArray)).size : Int) ≤ 10 := by rw [ByteArray.size_append]; omega
  clear hb0 hT hM hD hr hm hA
  cases m with
  | false =>
    have H0 := Lib.hid (show r = ⟨#[]⟩ from HR.out)
    go_enter Tryd.func7, Tryd.ntmps7
    go_wp2_with (go_at_call 8; (with_reducible refine (HC.out).mono ?_); rintro e w3 ⟨rfl, hb⟩; have HB3 := Lib.hid (HB0.out.trans (hb.mono HB0.out.size)); clear hb)
    go_ret
    exact ⟨by rw [H0.out]; rfl, HB3.out⟩
  | true =>
    have H0 := Lib.hid (show r = (A ++ ⟨#[58]⟩) ++ v from HR.out)
    go_enter Tryd.func7, Tryd.ntmps7
    go_wp2_with (go_at_call 8; (with_reducible refine (HC.out).mono ?_); rintro e w3 ⟨rfl, hb⟩; have HX3 := Lib.hid (HX.out.below hb HX.out.lt); have a0 := HX3.out.cell 0; have a1 := HX3.out.cell 1; have a2 := HX3.out.cell 2; have HB3 := Lib.hid (HB0.out.trans (hb.mono HB0.out.size)); clear hb)
    go_quiet ((go_at_call 12; exact Calls.quiet_of_same (HH.out _)))
    go_wp2
    go_ret
    exact ⟨by rw [H0.out]; rfl, by first | exact HB3.out | exact below_drewN HB3.out _⟩
end Go.Proofs.YthknkglhppngoaaDoor
