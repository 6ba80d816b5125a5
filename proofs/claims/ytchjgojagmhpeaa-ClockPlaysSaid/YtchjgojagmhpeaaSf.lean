/- The clock's All walks. -/
import Derived.Test.YtchjgojagmhpeaaSe
namespace Go.Proofs.Ytchjgojagmhpeaa
open Go.RowKit Go.Maps
open Go.Proofs
open Go.WideElems (rg Fit)
open Go.ChangeMaps Go.MapKept
set_option linter.unusedVariables false
set_option linter.unusedSimpArgs false
set_option maxRecDepth 20000
theorem same_key (y x : Int) : (Lit.int .i64 y).sameKey (.int .i64 x) = decide (y = x) := by
  by_cases h : y = x
  · subst h; simp [Lit.sameKey]
  · simp [Lit.sameKey, h]
theorem mem_step {D : MD} {now x : Int} {left : Lit → Bool} {xs : List W64} (hm : ∀ y : W64, y ∈ xs ↔ (dueB D now y.1 = true ∧ left (.int .i64 y.1) = false)) (hx : dueB D now x = false) (y : W64) :
    y ∈ xs ↔ (dueB D now y.1 = true ∧ (left (.int .i64 y.1) && !(Lit.int .i64 y.1).sameKey (.int .i64 x)) = false) := by
  rw [hm, same_key]
  by_cases h : y.1 = x
  · rw [h, hx]; simp
  · simp [h]
theorem mem_push {D : MD} {now x : Int} {left : Lit → Bool} {xs : List W64} (hm : ∀ y : W64, y ∈ xs ↔ (dueB D now y.1 = true ∧ left (.int .i64 y.1) = false)) (hx : dueB D now x = true) (hw : wf x) (y : W64) :
    y ∈ xs ++ [⟨x, hw⟩] ↔ (dueB D now y.1 = true ∧ (left (.int .i64 y.1) && !(Lit.int .i64 y.1).sameKey (.int .i64 x)) = false) := by
  rw [List.mem_append, hm, same_key, List.mem_singleton]
  by_cases h : y.1 = x
  · have : y = ⟨x, hw⟩ := Subtype.ext h
    rw [h]; simp [hx, this]
  · have : y ≠ ⟨x, hw⟩ := fun e => h (congrArg Subtype.val e)
    simp [h, this]
set_option maxHeartbeats 8000000 in
theorem all_any (HS : SortOK) (HN : SortNil) {w : World} {R b n : Nat} {now : Int} {D : MD} (h : Clk w R b now n D) (hn : n ≤ 1000000) : Calls Try.prog 21 #[.pointer (some ⟨R, 0, none⟩)] w fun e w' => ∃ A cap g ys, e = .returned (.slice A ys.length cap) ∧ Ls w' A cap g ys ∧ ys.Pairwise (ahd D) ∧ (∀ x, wf x → (x ∈ ys ↔ dueB D now x = true)) ∧ (∀ x ∈ ys, wf x) ∧ ys.length ≤ n ∧ Below w.heap.size w w' := by
  obtain ⟨i0, hi, hz0, hz1, hz2⟩ := info_parts info3
  have c1 := h.c1
  have HW := Lib.hid (h.own.alloc (.cells #[.pointer (some ⟨R, 0, none⟩)] 24))
  have hR := h.lt.1
  have hb := h.lt.2
  have H := Lib.hid h
  have HSO := Lib.hid HS
  have HNO := Lib.hid HN
  clear h HS HN
  go_enter Try.func21, Try.ntmps21
  go_wp2_with (first
    | (at_range; refine wpList_range_own _ rfl _ 43 rfl 3 3 K3 Try.underlying43 PE b n _ rfl HW.out ?_; intro w1 hrg hg1 hs1)
    | fail)
  go_frame
  have hsz : w1.heap.size = w.heap.size + 2 := by rw [hs1]; simp
  have hG : (w.alloc (.cells #[.pointer (some ⟨R, 0, none⟩)] 24)).heap.size = w.heap.size + 1 := by simp
  rw [hG] at hrg ⊢
  go_loopw [3] (fun l wr => ∃ left cnt xs A cap g, AR w wr R b (w.heap.size + 1) n now D l left cnt xs A cap g ∧ (xs = [] → A = none ∧ cap = 0)) (fun _ wr => wr.rangeLeft b (w.heap.size + 1))
  case atStart =>
    refine ⟨_, _, [], none, 0, w.heap.size + 2, ⟨hrg, ?_, ?_, ?_, by omega, rfl, .inl ⟨rfl, rfl, rfl⟩, by omega, List.nodup_nil, fun x => ?_, ?_⟩, fun _ => ⟨rfl, rfl⟩⟩
    · exact (H.out.box.alloc _).grown hg1 (by simp)
    · exact (Blk.new w 24 _).grown hg1 (by simp)
    · exact ((Below.refl _ _).alloc (Nat.le_refl _) _).trans ⟨hg1.os, hg1.tape, hg1.output, hg1.size, fun j hj => hg1.block j (by simp; omega) (by simp)⟩
    · constructor
      · intro hx; cases hx
      · rintro ⟨h1, h2⟩
        rw [has_due h1] at h2; cases h2
    · have := H.out.own.size_le
      simpa using this
  case round =>
    obtain ⟨left, cnt, xs, A, cap, g, hAR, hnil⟩ := hrel
    obtain ⟨hr, hbx, hpt, hbl, hrl, rfl, hown, hfar, hnod, hmem, hcnt⟩ := hAR
    have HR := Lib.hid hr
    have HBX := Lib.hid hbx
    have HPT := Lib.hid hpt
    have HBL := Lib.hid hbl
    have HOW := Lib.hid hown
    have HME := Lib.hid hmem
    have HNO2 := Lib.hid hnod
    have HNI := Lib.hid hnil
    have hrb := hr.ne
    clear hr hbx hpt hbl hown hmem hnod hnil
    go_wp2_with (first
      | (at_next; refine wpList_next_ranges_ii _ rfl _ rfl 3 3 .i64 .i64 K3 Try.underlying3 Try.underlying3 b (w.heap.size + 1) n _ _ _ rfl HR.out ?_ ?_)
      | fail)
    · intro h0 hleft
      have HLE := Lib.hid hleft
      clear hleft
      by_cases hx : xs = []
      · subst hx
        obtain ⟨rfl, rfl⟩ := HNI.out rfl
        go_wp2_with (first
          | (go_at_call 23; refine (HNO.out _ _).mono ?_; rintro _ w3 ⟨rfl, hw⟩; replace hw := hw.symm; subst hw)
          | fail)
        go_ret
        refine ⟨none, 0, 0, [], rfl, ⟨fun j y hj => by simp at hj⟩, List.Pairwise.nil, fun x hwx => ⟨(fun h => by cases h), fun hd => ?_⟩, (fun x hx => by cases hx), Nat.zero_le _, HBL.out⟩
        have := (HME.out ⟨x, hwx⟩).2 ⟨hd, HLE.out _⟩
        cases this
      · obtain ⟨z, zs, rfl⟩ := List.exists_cons_of_ne_nil hx
        have hc := HOW.out.cell (j := 0) (u := encW z) rfl
        obtain ⟨rfl, hcap, hgl, _, _⟩ := hc
        have hgw : w.heap.size + 1 < g := hfar
        have HCK := Lib.hid (show Clk wr R b now n D from ⟨HBX.out, HR.out.owns, H.out.ne, H.out.is⟩)
        have HSR := Lib.hid (HSO.out wr R b n w.heap.size g now D HCK.out (HPT.out.cell 0) (by omega) (by omega) (by omega) (z :: zs) cap (holds_own HOW.out) hgl (by omega))
        clear hx
        go_wp2_with (first
          | (go_at_call 23; refine (HSR.out).mono ?_; rintro _ w3 ⟨rfl, m, os, hw⟩; have HW3 := Lib.hid hw; clear hw)
          | fail)
        go_ret
        have hgr := sort_grown encW wr g m (srt D (z :: zs)).toArray os
        rw [← HW3.out] at hgr
        have hlen : (srt D (z :: zs)).length = (z :: zs).length := (srt_perm D _).length_eq
        refine ⟨some ⟨g, 0, none⟩, cap, g, (srt D (z :: zs)).map Subtype.val, ?_, ?_, ?_, fun x hwx => ?_, ?_, ?_, ?_⟩
        · rw [List.length_map, hlen]; rfl
        · rw [HW3.out]; exact sorted_out HOW.out hlen
        · exact List.pairwise_map.2 (srt_sorted D _ HNO2.out)
        · rw [List.mem_map]
          constructor
          · rintro ⟨y, hy, rfl⟩
            exact ((HME.out y).1 ((srt_perm D _).mem_iff.1 hy)).1
          · intro hd
            exact ⟨⟨x, hwx⟩, (srt_perm D _).mem_iff.2 ((HME.out ⟨x, hwx⟩).2 ⟨hd, HLE.out _⟩), rfl⟩
        · intro x hx
          obtain ⟨y, _, rfl⟩ := List.mem_map.1 hx
          exact y.2
        · rw [List.length_map, hlen]; omega
        · exact HBL.out.trans ⟨hgr.os, hgr.tape, hgr.output, hgr.size, fun j hj => hgr.block j (by have := HBL.out.size; omega) (by simp; omega)⟩
    · intro x c w2 cnt2 hwx hwc hlx hat hrg2 hlt hg2 hs2 hen
      have HB2 := Lib.hid (HBX.out.grown hg2 (by simp; omega))
      have HP2 := Lib.hid (HPT.out.grown hg2 (by simp))
      have c2 : w2.cell? ⟨w.heap.size, 0, none⟩ = some (.pointer (some ⟨R, 0, none⟩)) := HP2.out.cell 0
      have HBL2 := Lib.hid (HBL.out.trans (⟨hg2.os, hg2.tape, hg2.output, hg2.size, fun j hj => hg2.block j (Nat.lt_of_lt_of_le hj HBL.out.size) (by simp; omega)⟩ : Below w.heap.size _ w2))
      have HC2 := Lib.hid (show Clk w2 R b now n D from ⟨HB2.out, hrg2.owns, H.out.ne, H.out.is⟩)
      have HR2 := Lib.hid hrg2
      have hrl2 : w.heap.size + 1 < w2.heap.size := by omega
      have HM := Lib.hid (show w2.rangeLeft b (w.heap.size + 1) < wr.rangeLeft b (w.heap.size + 1) by rw [hrg2.left_eq, HR.out.left_eq]; exact hlt)
      have HWX := Lib.hid hwx
      have HO2 := Lib.hid (show OwnG 3 w2 A cap g (xs.map encW) from by
        rcases HOW.out with ⟨h1, h2, h3⟩ | ⟨cur, h1, h2, h3, h4, h5⟩
        · exact .inl ⟨h1, h2, h3⟩
        · exact .inr ⟨cur, h1, h2, h3, (hg2.block g (Blk.lt h4) (by simp; omega)).trans h4, h5⟩)
      have HLX := Lib.hid hlx
      have hcn : xs.length + 1 + cnt2 ≤ n := by omega
      clear hrg2 hg2 hat hlt hlx hs2 hwx hwc
      cases hd : dueB D now x with
      | false =>
        have HDU := Lib.hid (fun w0 (h : Clk w0 R b now n D) => (show Calls Try.prog 18 #[.pointer (some ⟨R, 0, none⟩), .int .i64 x] w0 fun e w' => e = .returned (.bool false) ∧ w' = w0 from hd ▸ due_any h x HWX.out))
        have HD := Lib.hid hd
        clear hd
        go_wp2_with (first
          | (go_at_call 18; refine (HDU.out _ HC2.out).mono ?_; rintro _ w3 ⟨rfl, hw⟩; replace hw := hw.symm; subst hw)
          | fail)
        go_roundw
        case rel => exact ⟨_, cnt2, xs, A, cap, g, ⟨HR2.out, HB2.out, HP2.out, HBL2.out, hrl2, rfl, HO2.out, hfar, HNO2.out, fun y => mem_step HME.out HD.out y, by omega⟩, HNI.out⟩
        case measure => exact HM.out
      | true =>
        have HDU := Lib.hid (fun w0 (h : Clk w0 R b now n D) => (show Calls Try.prog 18 #[.pointer (some ⟨R, 0, none⟩), .int .i64 x] w0 fun e w' => e = .returned (.bool true) ∧ w' = w0 from hd ▸ due_any h x HWX.out))
        have HD := Lib.hid hd
        have hxl : xs.length ≤ 1000000 := by omega
        have HOA := Lib.hid (HO2.out.alloc (.cells #[.int .i64 x] 3))
        clear hd
        go_wp2_with (first
          | (go_at_call 18; refine (HDU.out _ HC2.out).mono ?_; rintro _ w3 ⟨rfl, hw⟩; replace hw := hw.symm; subst hw)
          | (at_builtin
             refine wpList_own_push (e := 3) (t := 27) (tx := 27) (z := .int .i64 0) (i := i0) (A := A) (cap := cap) (g := g) (l := xs.map encW) (L := xs.length) _ rfl (.tmp 17) (.tmp 19) rfl Try.underlying27 hi hz0 hz1 (by omega) rfl (by simp) rfl HOA.out (.slice (some ⟨w2.heap.size, 0, none⟩) 1 1) (.int .i64 x) rfl (src_one (Blk.new w2 _ _)) (by simp; omega) 0 ?hK
             intro cap' g' w4 h1 h2 h3 h4
             have HO4 := Lib.hid h1
             have HT4 := Lib.hid h3
             have HK4 := Lib.hid (show ∀ j, j < w2.heap.size → j ≠ g → w4.heap[j]? = w2.heap[j]? from fun j hj hne => (h4 j (by simp; omega) (.inr hne)).trans (Below.heap_alloc w2 _ j hj))
             have HG4 := Lib.hid h2
             clear h1 h2 h3 h4)
          | fail)
        have HGR : w2.grownBy w4 (some g) := ⟨HT4.out.os, HT4.out.tape, HT4.out.output, by have := HT4.out.size; simp at this; omega, fun j hj hne => HK4.out j hj (by simpa using hne)⟩
        have HR4 := HR2.out.kept HGR (by simp; omega) (by simp; omega)
        have hsz4 := HGR.size
        have hg4 : w.heap.size + 1 < g' := by
          rcases HG4.out with h | h
          · omega
          · simp at h; omega
        go_roundw
        case rel =>
          refine ⟨_, cnt2, xs ++ [⟨x, HWX.out⟩], some ⟨g', 0, none⟩, cap', g', ⟨HR4, HB2.out.grown HGR (by simp; omega), HP2.out.grown HGR (by simp; omega), HBL2.out.trans ⟨HGR.os, HGR.tape, HGR.output, HGR.size, fun j hj => HK4.out j (by omega) (by omega)⟩, by omega, by simp, ?_, hg4, ?_, fun y => mem_push HME.out HD.out HWX.out y, by simp; omega⟩, fun h => by simp at h⟩
          · rw [List.map_append]; exact HO4.out
          · rw [List.nodup_append]
            refine ⟨HNO2.out, by simp, fun a ha c hc hac => ?_⟩
            rw [List.mem_singleton] at hc
            have h1 := ((HME.out a).1 ha).2
            rw [hac, hc] at h1
            rw [HLX.out] at h1
            cases h1
        case measure => rw [HR4.left_eq, ← HR2.out.left_eq]; exact HM.out
end Go.Proofs.Ytchjgojagmhpeaa
