/- The clock's All, at one alarm that has come; what the law's first looks at. -/
import Derived.Test.YtchjgojagmhpeaaCk
import Derived.Test.YtchjgojagmhpeaaRow
import Derived.Handy
namespace Go.Proofs.Ytchjgojagmhpeaa
open Go.RowKit Go.Maps
open Go.WideElems (rg Fit)
open Go.ChangeMaps Go.MapKept
set_option linter.unusedVariables false
set_option maxRecDepth 20000
theorem info_parts {P : Program} {e : TypeId} {z : Value} {a b : Nat} (h : (P.info? e).map (fun i => (i.zero, i.size, i.bytes)) = some (some z, a, b)) : ∃ i, P.info? e = some i ∧ i.zero = some z ∧ i.size = a ∧ i.bytes = b := by
  cases hi : P.info? e with
  | none => rw [hi] at h; cases h
  | some i => rw [hi] at h; simp at h; exact ⟨i, rfl, h⟩
theorem info3 : (Try.prog.info? 3).map (fun i => (i.zero, i.size, i.bytes)) = some (some (.int .i64 0), 1, 8) := by kernel_rfl
theorem src_one {W : World} {g : Nat} {x : Int} (h : Blk W g 3 #[.int .i64 x]) : Src Try.prog 1 27 (.slice (some ⟨g, 0, none⟩) 1 1) 1 [.int .i64 x] W := by
  refine Src.ofSlice W Try.underlying27 _ 1 1 _ rfl (fun j u hu => ?_) (fun u hu => by
    have := List.mem_singleton.1 hu
    subst this
    rfl)
  rw [add_plain, Nat.zero_add, h.cell j]
  simpa using hu
theorem len64_1 (w : World) : Calls Try.prog 39 #[.int .u64 1] w fun e w' => e = .returned (.int .i64 1) ∧ w' = w := by
  have h0 : (1 : Nat) < 256 := by decide
  go_enter Try.func39, Try.ntmps39
  go_wp2
  go_ret
  exact ⟨by kernel_rfl, rfl⟩
theorem insort_1 (w : World) (A : Option Addr) (cap : Nat) (f : Value) : Calls Try.prog 30 #[.slice A 1 cap, .int .i64 0, .int .i64 1, f] w fun e w' => e = .returned (.tuple #[]) ∧ w' = w := by
  go_enter Try.func30, Try.ntmps30
  go_wp2
  go_rounds 1
  go_end0
  exact ⟨rfl, rfl⟩
theorem pdq_1 (w : World) (A : Option Addr) (cap : Nat) (f : Value) (l : Int) : Calls Try.prog 27 #[.slice A 1 cap, .int .i64 0, .int .i64 1, .int .i64 l, f] w fun e w' => e = .returned (.tuple #[]) ∧ w' = w := by
  go_enter Try.func27, Try.ntmps27
  go_wp2
  refine wp_loop_rounds 1 ?_
  rw [rounds_succ]
  go_wp2_with (first
    | (go_at_call 30; refine (insort_1 _ _ _ _).mono ?_; rintro _ w2 ⟨rfl, hw⟩; replace hw := hw.symm; subst hw)
    | fail)
  exact bodyPost_ret (v := .tuple #[]) (by simp [results, Try.results27, go_sem]) rfl ⟨rfl, rfl⟩
theorem len_1 (w : World) : Calls Try.prog 28 #[.int .u64 1] w fun e w' => e = .returned (.int .i64 1) ∧ w' = w := by
  go_enter Try.func28, Try.ntmps28
  go_wp2_with (first
    | (go_at_call 39; refine (len64_1 _).mono ?_; rintro _ w2 ⟨rfl, hw⟩; replace hw := hw.symm; subst hw)
    | fail)
  go_ret
  exact ⟨rfl, rfl⟩
theorem sort_1 (w : World) (A : Option Addr) (cap : Nat) (f : Value) : Calls Try.prog 23 #[.slice A 1 cap, f] w fun e w' => e = .returned (.tuple #[]) ∧ w' = w := by
  go_enter Try.func23, Try.ntmps23
  go_wp2_with (first
    | (go_at_call 28; refine (len_1 _).mono ?_; rintro _ w2 ⟨rfl, hw⟩; replace hw := hw.symm; subst hw)
    | (go_at_call 27; refine (pdq_1 _ _ _ _ _).mono ?_; rintro _ w3 ⟨rfl, hw⟩; replace hw := hw.symm; subst hw)
    | fail)
  go_end0
  exact ⟨rfl, rfl⟩
theorem ints_1 (w : World) (g h : Nat) (c d : Nat) (x : Int) (hg : w.cell? ⟨g, 0, none⟩ = some (.int .i64 x)) (hh : w.cell? ⟨h, 0, none⟩ = some (.int .i64 x)) (hc : 1 ≤ c) (hd : 1 ≤ d) :
    Calls Try.prog 20 #[.slice (some ⟨g, 0, none⟩) 1 c, .slice (some ⟨h, 0, none⟩) 1 d] w fun e w' => e = .returned (.bool true) ∧ ∃ m, w' = w.drewN m := by
  go_enter Try.func20, Try.ntmps20
  go_wp2
  go_loopw [5] (fun i wr => ∃ k : Nat, k ≤ 1 ∧ i = .int .i64 (k : Int) ∧ ∃ m, wr = w.drewN m) (fun i _ => 1 - (intOf i).toNat)
  case atStart => exact ⟨0, by omega, rfl, 0, by simp [World.drewN_zero]⟩
  case round =>
    obtain ⟨k, hk, rfl, m, rfl⟩ := hrel
    rcases (by omega : k = 0 ∨ k = 1) with rfl | rfl
    · go_wp2
      go_quiet (fail)
      go_wp2
      go_roundw
      case rel => exact ⟨1, by omega, rfl, _, rfl⟩
      case measure => simp [intOf]
    · go_wp2
      go_ret
      exact ⟨rfl, m, rfl⟩
theorem wf1 : wf 1 := by unfold wf; decide
theorem wf5 : wf 5 := by unfold wf; decide
/-- An alarm at 5 and no other; the time is 5. -/
def oneD : MD := (DataW.map []).put (.int .i64 1) (.lit (.int .i64 5))
theorem one_al : al oneD 1 = some 5 := al_put isMap_empty 1 5
theorem one_has (x : Int) (h : Maps.has oneD (.int .i64 x) = true) : x = 1 := by
  by_cases hx : x = 1
  · exact hx
  · rw [show oneD = (DataW.map []).put (.int .i64 1) (.lit (.int .i64 5)) from rfl, has_put_other (by simpa using hx)] at h
    cases h
theorem one_due : dueB oneD 5 1 = true := by unfold dueB; rw [one_al]; decide
/-- What stands at the loop's head: nothing yet, or the one alarm. -/
def AllRel (w0 : World) (R b n r : Nat) (l : Value) (wr : World) : Prop := ∃ (left : Lit → Bool) (cnt : Nat),
  wr.ranges Try.prog 3 PE b r n oneD left cnt ∧ Blk wr R 45 #[.int .i64 5, .map (some b)] ∧ Blk wr w0.heap.size 24 #[.pointer (some ⟨R, 0, none⟩)] ∧ Below w0.heap.size w0 wr ∧ r < wr.heap.size ∧
  ((l = .slice none 0 0 ∧ left = Maps.has oneD ∧ cnt = Maps.size oneD) ∨ ∃ g cap, l = .slice (some ⟨g, 0, none⟩) 1 cap ∧ OwnG 3 wr (some ⟨g, 0, none⟩) cap g [.int .i64 1] ∧ w0.heap.size < g ∧ ∀ x : Int, left (.int .i64 x) = false)
set_option maxHeartbeats 4000000 in
theorem all_one {w : World} {R b n : Nat} (h : Clk w R b 5 n oneD) : Calls Try.prog 21 #[.pointer (some ⟨R, 0, none⟩)] w fun e w' => ∃ g cap, e = .returned (.slice (some ⟨g, 0, none⟩) 1 cap) ∧ 1 ≤ cap ∧ w'.cell? ⟨g, 0, none⟩ = some (.int .i64 1) ∧ Below w.heap.size w w' := by
  obtain ⟨i0, hi, hz0, hz1, hz2⟩ := info_parts info3
  have c1 := h.c1
  have HW := Lib.hid (h.own.alloc (.cells #[.pointer (some ⟨R, 0, none⟩)] 24))
  have hR := h.lt.1
  have hb := h.lt.2
  have H := Lib.hid h
  clear h
  go_enter Try.func21, Try.ntmps21
  go_wp2_with (first
    | (at_range; refine wpList_range_own _ rfl _ 43 rfl 3 3 K3 Try.underlying43 PE b n _ rfl HW.out ?_; intro w1 hrg hg1 hs1)
    | fail)
  go_frame
  have hsz : w1.heap.size = w.heap.size + 2 := by rw [hs1]; simp
  have hG : (w.alloc (.cells #[.pointer (some ⟨R, 0, none⟩)] 24)).heap.size = w.heap.size + 1 := by simp
  rw [hG] at hrg ⊢
  go_loopw [3] (fun l wr => AllRel w R b n (w.heap.size + 1) l wr) (fun _ wr => wr.rangeLeft b (w.heap.size + 1))
  case atStart =>
    refine ⟨_, _, hrg, ?_, ?_, ?_, by omega, .inl ⟨rfl, rfl, rfl⟩⟩
    · exact (H.out.box.alloc _).grown hg1 (by simp)
    · exact (Blk.new w 24 _).grown hg1 (by simp)
    · exact ((Below.refl _ _).alloc (Nat.le_refl _) _).trans ⟨hg1.os, hg1.tape, hg1.output, hg1.size, fun j hj => hg1.block j (by simp; omega) (by simp)⟩
  case round =>
    obtain ⟨left, cnt, hr, hbx, hpt, hbl, hrl, hph⟩ := hrel
    have HR := Lib.hid hr
    have HBX := Lib.hid hbx
    have HPT := Lib.hid hpt
    have HBL := Lib.hid hbl
    have hrb := hr.ne
    clear hr hbx hpt hbl
    rcases hph with ⟨rfl, rfl, rfl⟩ | ⟨g, cap, rfl, hown, hgw, hno⟩
    · go_wp2_with (first
        | (at_next; refine wpList_next_ranges_ii _ rfl _ rfl 3 3 .i64 .i64 K3 Try.underlying3 Try.underlying3 b (w.heap.size + 1) n _ _ _ rfl HR.out ?_ ?_)
        | fail)
      · intro h0 _
        exact absurd h0 (by decide +kernel)
      · intro x c w2 cnt2 hwx hwc hlx hat hrg2 hlt hg2 hs2 hen
        obtain rfl := one_has x hlx
        have HB2 := Lib.hid (HBX.out.grown hg2 (by simp; omega))
        have HP2 := Lib.hid (HPT.out.grown hg2 (by simp))
        have c2 : w2.cell? ⟨w.heap.size, 0, none⟩ = some (.pointer (some ⟨R, 0, none⟩)) := HP2.out.cell 0
        have HBL2 := Lib.hid (HBL.out.trans (⟨hg2.os, hg2.tape, hg2.output, hg2.size, fun j hj => hg2.block j (Nat.lt_of_lt_of_le hj HBL.out.size) (by simp; omega)⟩ : Below w.heap.size _ w2))
        have HC2 := Lib.hid (show Clk w2 R b 5 n oneD from ⟨HB2.out, hrg2.owns, H.out.ne, H.out.is⟩)
        have HR2 := Lib.hid hrg2
        have hrl2 : w.heap.size + 1 < w2.heap.size := by omega
        have HM := Lib.hid (show w2.rangeLeft b (w.heap.size + 1) < wr.rangeLeft b (w.heap.size + 1) by rw [hrg2.left_eq, HR.out.left_eq]; exact hlt)
        have hmeas := True.intro
        clear hrg2 hg2 hat hlt hlx hs2 hmeas
        go_wp2_with (first
          | (go_at_call 18; refine (due_any HC2.out 1 wf1).mono ?_; rintro _ w3 ⟨rfl, hw⟩; replace hw := hw.symm; subst hw; rw [one_due])
          | (at_builtin
             refine wpList_own_push (e := 3) (t := 27) (tx := 27) (z := .int .i64 0) (i := i0) (A := none) (cap := 0) (g := w2.heap.size) (l := []) (L := 0) _ rfl (.tmp 17) (.tmp 19) rfl Try.underlying27 hi hz0 hz1 (by omega) rfl rfl rfl (.inl ⟨rfl, rfl, rfl⟩) (.slice (some ⟨w2.heap.size, 0, none⟩) 1 1) (.int .i64 1) rfl (src_one (Blk.new w2 _ _)) (by simp) 0 ?hK
             intro cap' g' w4 h1 h2 h3 h4
             have HO4 := Lib.hid h1
             have HT4 := Lib.hid h3
             have HK4 := Lib.hid (show ∀ j, j < w2.heap.size → w4.heap[j]? = w2.heap[j]? from fun j hj => (h4 j (by simp; omega) (.inl rfl)).trans (Below.heap_alloc w2 _ j hj))
             have HG4 := Lib.hid h2
             clear h1 h2 h3 h4)
          | fail)
        have HGR : w2.grownBy w4 none := ⟨HT4.out.os, HT4.out.tape, HT4.out.output, by have := HT4.out.size; simp at this; omega, fun j hj _ => HK4.out j hj⟩
        have HR4 := HR2.out.kept HGR (by simp) (by simp)
        have hsz4 := HGR.size
        refine ⟨⟨_, cnt2, HR4, HB2.out.grown HGR (by simp), HP2.out.grown HGR (by simp), HBL2.out.trans ⟨HGR.os, HGR.tape, HGR.output, HGR.size, fun j hj => HK4.out j (by omega)⟩, by omega, .inr ⟨g', cap', rfl, HO4.out, ?_, ?_⟩⟩, ?_⟩
        · rcases HG4.out with h | h
          · omega
          · simp at h; omega
        · intro x
          by_cases hx : x = 1
          · subst hx; simp [Lit.sameKey]
          · cases hh : Maps.has oneD (.int .i64 x)
            · rfl
            · exact absurd (one_has x hh) hx
        · rw [HR4.left_eq, ← HR2.out.left_eq]; exact HM.out
    · go_wp2_with (first
        | (at_next; refine wpList_next_ranges_ii _ rfl _ rfl 3 3 .i64 .i64 K3 Try.underlying3 Try.underlying3 b (w.heap.size + 1) n _ _ _ rfl HR.out ?_ ?_)
        | fail)
      · intro h0 _
        have HO := Lib.hid hown
        clear hown
        go_wp2_with (first
          | (go_at_call 23; refine (sort_1 _ _ _ _).mono ?_; rintro _ w3 ⟨rfl, hw⟩; replace hw := hw.symm; subst hw)
          | fail)
        go_ret
        obtain ⟨h1, h2, h3, h4, h5⟩ := HO.out.cell (j := 0) (u := .int .i64 1) rfl
        exact ⟨g, cap, rfl, h2, h4, HBL.out⟩
set_option maxHeartbeats 4000000 in
theorem first_any (w : World) : Calls Try.prog 7 #[] w fun e w' => e = .returned (.bool true) ∧ Below w.heap.size w w' := by
  go_enter Try.func7, Try.ntmps7
  go_wp2_with fail
  refine (new_any _).mono ?_
  rintro _ w1 ⟨R, b, rfl, h1, hR, hb, hB1⟩
  have HR := Lib.hid hR
  have HB := Lib.hid hb
  have H1 := Lib.hid h1
  have HB1 := Lib.hid hB1
  clear h1 hR hb hB1
  go_wp2_with (first
    | (go_at_call 11
       refine (set_any H1.out (by omega) 1 5 wf1 wf5).mono ?_
       rintro _ w2 ⟨rfl, h2, ht⟩
       have H2 := Lib.hid (show Clk w2 R b 0 1 oneD from h2)
       have HB2 := Lib.hid (HB1.out.trans (ht.below HR.out HB.out HB1.out.size))
       clear h2 ht)
    | (go_at_call 9
       (with_reducible refine (tick_yes H2.out (by omega) 4 (by omega) (by omega)).mono ?_)
       rintro _ w3 ⟨rfl, h2, ht⟩
       have H3 := Lib.hid (show Clk w3 R b 4 1 oneD from h2)
       have HB3 := Lib.hid (HB2.out.trans (ht.below HR.out HB.out HB2.out.size))
       clear h2 ht H2)
    | (go_at_call 18
       (with_reducible refine (due_any H3.out 1 wf1).mono ?_)
       rintro _ w4 ⟨rfl, hw⟩
       replace hw := hw.symm
       subst hw
       rw [show dueB oneD 4 1 = false by unfold dueB; rw [one_al]; decide])
    | (go_at_call 9
       (with_reducible refine (tick_yes H3.out (by omega) 1 (by omega) (by omega)).mono ?_)
       rintro _ w5 ⟨rfl, h2, ht⟩
       have H5 := Lib.hid (show Clk w5 R b 5 1 oneD from h2)
       have HB5 := Lib.hid (HB3.out.trans (ht.below HR.out HB.out HB3.out.size))
       clear h2 ht H3)
    | (go_at_call 18
       (with_reducible refine (due_any H5.out 1 wf1).mono ?_)
       rintro _ w4 ⟨rfl, hw⟩
       replace hw := hw.symm
       subst hw
       rw [one_due])
    | (go_at_call 17
       (with_reducible refine (now_any H5.out).mono ?_)
       rintro _ w4 ⟨rfl, hw⟩
       replace hw := hw.symm
       subst hw)
    | (go_at_call 21
       (with_reducible refine (all_one H5.out).mono ?_)
       rintro _ w6 ⟨g, cap, rfl, hc, hcell, hb6⟩
       have hg6 : g < w6.heap.size := cell_lt hcell
       have HB6 := Lib.hid (HB5.out.trans (hb6.mono HB5.out.size))
       have HI := Lib.hid (fun W (c1 : W.cell? ⟨g, 0, none⟩ = some (.int .i64 1)) (c2 : W.cell? ⟨w6.heap.size, 0, none⟩ = some (.int .i64 1)) => ints_1 W g w6.heap.size cap 1 1 c1 c2 hc (by omega))
       have HCELL := Lib.hid hcell
       clear hcell hb6)
    | (go_at_call 20
       (refine (HI.out _ ?hc1 ?hc2).mono ?_)
       case hc1 => exact (((Below.refl w6.heap.size w6).alloc (Nat.le_refl _) _).cell (p := ⟨g, 0, none⟩) hg6).trans HCELL.out
       case hc2 => exact (Blk.new w6 3 #[.int .i64 1]).cell 0
       rintro _ w7 ⟨rfl, m7, rfl⟩)
    | fail)
  go_ret
  exact ⟨rfl, below_drewN (HB6.out.alloc HB6.out.size _) _⟩
end Go.Proofs.Ytchjgojagmhpeaa
