/- The hub: Remove of one who waits. -/
import Derived.Test.YtgfaegnpogdneaaHr
namespace Go.Proofs.Ytgfaegnpogdneaa
open Go.RowKit Go.Maps
open Go.Proofs Go.Lib
set_option linter.unusedVariables false
set_option linter.unusedSimpArgs false
set_option maxRecDepth 100000
section
variable {w W : World} {R b1 b2 B n : Nat} {No : Nat → Prop} {Z : List Slp} {D1 D2 D4 : VD}
set_option maxHeartbeats 8000000 in
theorem rem_yes (h : Hb w R b1 b2 B No n Z D1 D2) (hn : n ≤ 1000) (x : Int) (hx : wf x) {s : Slp} (hl : look x Z = some s) : Calls Try.prog 14 #[.pointer (some ⟨R, 0, none⟩), .int .i64 x] w fun e w' => ∃ D3 D4, e = .returned (.bool true) ∧ Hb w' R b1 b2 B No n (delL Z x) D3 D4 ∧ Kp No w w' := by
  have HH := Lib.hid h
  have HX := Lib.hid hx
  have HL := Lib.hid hl
  obtain ⟨hsm, hsw⟩ := look_mem hl
  have HP := Lib.hid (h.wfz s hsm).2
  have c0 := h.c0
  have hlk := (h.m1.look Try.underlying43 (zero48 w) hx).1
  rw [h.d1, hl] at hlk
  simp only [Option.map_some, Option.getD_some, Option.isSome_some, sv] at hlk
  obtain ⟨k, hk, hk1, hk2, hk3⟩ := spot x (atL Z s.place) (atL_nodup h.one _) (hsw ▸ atL_mem_of hsm)
  have HK3 := Lib.hid hk3
  have hA := (Below.refl w.heap.size w).alloc (Nat.le_refl _) (.cells #[.int .i64 s.place, .bool s.woken] 48)
  have HW := Lib.hid hA
  have hv := h.kept hA
  have c0a := hv.c0
  obtain ⟨w2, hdel, hm2, hg2, hz2⟩ := hv.m1.drop 0 Try.underlying43 hx
  have hwz : (w.alloc (.cells #[.int .i64 s.place, .bool s.woken] 48)).heap.size = w.heap.size + 1 := by simp
  have hlt := h.lt
  have HQ := Lib.hid (show ∀ j, j < w.heap.size → j ≠ b1 → w2.heap[j]? = w.heap[j]? from fun j hj hb => (hg2.block j (by omega) (fun e => hb (Option.some.inj e))).trans (Below.heap_alloc _ _ _ hj))
  have HBx := Lib.hid (show Blk w2 w.heap.size 48 #[.int .i64 s.place, .bool s.woken] from (hg2.block _ (by omega) (fun e => by have := Option.some.inj e; omega)).trans (Blk.new w 48 _))
  have HR2 := Lib.hid (show Blk w2 R 46 #[.map (some b1), .map (some b2)] from (HQ.out R hlt.1 h.ne.1).trans h.box)
  have HM2 := Lib.hid (h.m2.off (HQ.out b2 hlt.2.2 h.ne.2.2.symm))
  have HRow := Lib.hid (row_keep (h := h.row s.place) (w2 := w2) (fun j hj => HQ.out j ((h.row s.place).lt j hj).2 (h.shun s.place j hj).2.1))
  have HM := Lib.hid hm2
  have HG := Lib.hid hg2
  have HZ := Lib.hid (show w2.heap.size = w.heap.size + 1 from by omega)
  obtain ⟨g, cap, hV, hcap1, hcap2, hgl, hgB, _⟩ := row_slice HRow.out (by omega)
  have HVE := Lib.hid hV
  rw [hV] at HRow
  have HSH := Lib.hid (h.shun s.place g (by rw [hV]; rfl))
  have d1 : w2.drew.cell? ⟨R, 1, none⟩ = some (.map (some b2)) := HR2.out.cell 1
  have d2 : w2.drew.cell? ⟨w.heap.size, 0, none⟩ = some (.int .i64 s.place) := HBx.out.cell 0
  have d3 : (Instr.lookup 44 (.map (some b2)) (.int .i64 s.place) false).run Try.prog w2.drew = .ok (.slice (some ⟨g, 0, none⟩) (atL Z s.place).length cap) w2.drew := by
    have := ((HM2.out.off (w' := w2.drew) rfl).look Try.underlying44 (zero34 _) HP.out).2
    change _ = Result.ok (slc D2 s.place) _ at this
    rw [hV] at this
    exact this
  have hz4 := h.s2
  have HGL := Lib.hid (show g ≠ w.heap.size from fun e => by have := ((h.row s.place).lt g (by rw [hV]; rfl)).2; omega)
  have hlen := atL_len Z s.place
  have hzn := h.zn
  obtain ⟨l, hlE⟩ : ∃ l, atL Z s.place = l := ⟨_, rfl⟩
  rw [hlE] at hk hk1 hk2 HK3 HRow d3 hcap1 hlen
  have HLE := Lib.hid hlE
  have HIX := Lib.hid (lib_index (w := w2.drew) (row_drew HRow.out) hk hk1 hk2)
  have HDE := Lib.hid (lib_delete (w := w2.drew) (row_drew HRow.out) hk)
  have hkI : (k : Int) < (l.length : Int) := by omega
  have hl1000 : (l.length : Int) ≤ 1000 := by omega
  obtain ⟨p, hpE⟩ : ∃ p, s.place = p := ⟨_, rfl⟩
  have HPE := Lib.hid hpE
  obtain ⟨wk, hwk⟩ : ∃ wk, s.woken = wk := ⟨_, rfl⟩
  rw [hpE] at hlk d2 d3 HP HBx
  simp only [hwk] at hlk HBx
  rw [hpE, hwk] at hdel c0a
  clear h hx hl hsm hsw hk1 hk2 hk3 hA hv hm2 hg2 hz2 hwz hlt hV hlE hpE hwk hzn
  by_cases h1 : l.length = 1
  · have hb : (((l.length - 1 : Nat) : Int) == 0) = true := by rw [h1]; rfl
    have H1 := Lib.hid h1
    clear h1
    go_enter Try.func14, Try.ntmps14
    go_wp2_with fail
    go_region_held3 (fun W => W.cell? ⟨R, 1, none⟩ = some (.map (some b2)) ∧ W.cell? ⟨w.heap.size, 0, none⟩ = some (.int .i64 p) ∧ (Instr.lookup 44 (.map (some b2)) (.int .i64 p) false).run Try.prog W = .ok (.slice (some ⟨g, 0, none⟩) l.length cap) W) (exact ⟨d1, d2, d3⟩) (fail)
    go_wp2_with (first
      | (go_at_call 24; (with_reducible refine (HIX.out).mono ?_); rintro _ w3 ⟨rfl, hw⟩; replace hw := hw.symm; subst hw)
      | (go_at_call 25
         (with_reducible refine (HDE.out).mono ?_)
         rintro _ w5 ⟨rfl, h1, h2, h3⟩
         have h3' : w5.heap.size = w2.heap.size := h3
         have h2' : w2.grownBy w5 (some g) := ⟨h2.os, h2.tape, h2.output, h2.size, h2.block⟩
         have hM5 := HM2.out.off (w' := w5.drew) (h2'.block b2 HM2.out.lt (fun e => HSH.out.2.2.1 (Option.some.inj e).symm))
         have bR := HR2.out
         have bS := HBx.out
         have hB5 : Blk w5.drew R 46 #[.map (some b1), .map (some b2)] := (h2'.block R bR.lt (fun e => HSH.out.1 (Option.some.inj e).symm)).trans bR
         have hS5 : Blk w5.drew w.heap.size 48 #[.int .i64 p, .bool wk] := (h2'.block w.heap.size bS.lt (fun e => HGL.out (Option.some.inj e).symm)).trans bS
         have e1 := hB5.cell 1
         have e2 := hS5.cell 0
         obtain ⟨w6, hup, hm6, hg6, hz6⟩ := hM5.drop 0 Try.underlying44 HP.out
         have HR5 := Lib.hid h1
         have HG5 := Lib.hid h2'
         have HZ5 := Lib.hid h3'
         have hB6 : Blk w6 R 46 #[.map (some b1), .map (some b2)] := (hg6.block R hB5.lt (fun e => HH.out.ne.2.1 (Option.some.inj e))).trans hB5
         have f1 := hB6.cell 1
         have hS6 : Blk w6 w.heap.size 48 #[.int .i64 p, .bool wk] := (hg6.block w.heap.size hS5.lt (fun e => by have := Option.some.inj e; have := HH.out.lt; omega)).trans hS5
         have f2 := hS6.cell 0
         have HM6 := Lib.hid hm6
         have HG6 := Lib.hid hg6
         have HZ6 := Lib.hid hz6
         clear h1 h2 h2' h3 h3' hM5 bR bS hB5 hS5 hB6 hS6 hm6 hg6 hz6 d1 d2 d3)
      | fail)
    go_region_held3 (fun W => W.cell? ⟨R, 1, none⟩ = some (.map (some b2)) ∧ W.cell? ⟨w.heap.size, 0, none⟩ = some (.int .i64 p)) (first | exact ⟨e1, e2⟩ | exact ⟨f1, f2⟩) (fail)
    go_wp2
    go_ret
    have h1 := H1.out
    have z1 := HZ.out
    have z5 := HZ5.out
    have z6 : w6.heap.size = w5.heap.size := HZ6.out
    have hlt := HH.out.lt
    have q6 : ∀ j, j < w2.heap.size → j ≠ b2 → g ≠ j → w6.heap[j]? = w2.heap[j]? := fun j hj h2 hv => (HG6.out.block j (by show j < w5.heap.size; omega) (fun e => h2 (Option.some.inj e))).trans (HG5.out.block j hj (fun e => hv (Option.some.inj e).symm))
    have hpE := HPE.out
    subst hpE
    have hlE := HLE.out
    have i2 := HH.out.m2.vd
    have hdl := atL_del Z x s.place
    rw [hlE, HK3.out] at hdl
    have hOB : (slc D2 s.place).ownBlock = some g := by rw [HVE.out]; rfl
    refine ⟨_, D2.del (.int .i64 s.place), rfl, rem_done HH.out HL.out (by omega) (HM.out.off (q6 b1 (by omega) HH.out.ne.2.2 HSH.out.2.1)) HM6.out ?_ ?_ ?_ ?_ ?_ (fun j hj h1 h2 h3 => (q6 j (by omega) h2 (fun e => h3 (by rw [hOB, e]))).trans (HQ.out j hj h1)), ?_⟩
    · exact fun q hq => vl_del_ne hq
    · have := i2.size_del s.place
      omega
    · have hnil : l.eraseIdx k = [] := List.length_eq_zero_iff.1 (by rw [List.length_eraseIdx, if_pos (by omega)]; omega)
      rw [hdl, hnil]
      unfold slc
      rw [vl_del]
      exact World.ownsRow_nil _ _ _ _
    · exact fun _ => vl_del _ _
    · intro j hj
      unfold slc at hj
      rw [vl_del] at hj
      cases hj
    · refine (((Kp.of HW.out).step HG.out (fun j e => ?_)).step HG5.out (fun j e => ?_)).drew.step HG6.out (fun j e => ?_)
      · rw [← Option.some.inj e]; exact HH.out.nR.2.1
      · rw [← Option.some.inj e]; exact HSH.out.2.2.2
      · rw [← Option.some.inj e]; exact HH.out.nR.2.2
  · have hb : (((l.length - 1 : Nat) : Int) == 0) = false := by simp; omega
    have H1 := Lib.hid h1
    clear h1
    go_enter Try.func14, Try.ntmps14
    go_wp2_with fail
    go_region_held3 (fun W => W.cell? ⟨R, 1, none⟩ = some (.map (some b2)) ∧ W.cell? ⟨w.heap.size, 0, none⟩ = some (.int .i64 p) ∧ (Instr.lookup 44 (.map (some b2)) (.int .i64 p) false).run Try.prog W = .ok (.slice (some ⟨g, 0, none⟩) l.length cap) W) (exact ⟨d1, d2, d3⟩) (fail)
    go_wp2_with (first
      | (go_at_call 24; (with_reducible refine (HIX.out).mono ?_); rintro _ w3 ⟨rfl, hw⟩; replace hw := hw.symm; subst hw)
      | (go_at_call 25
         (with_reducible refine (HDE.out).mono ?_)
         rintro _ w5 ⟨rfl, h1, h2, h3⟩
         have h3' : w5.heap.size = w2.heap.size := h3
         have h2' : w2.grownBy w5 (some g) := ⟨h2.os, h2.tape, h2.output, h2.size, h2.block⟩
         have hM5 := HM2.out.off (w' := w5.drew) (h2'.block b2 HM2.out.lt (fun e => HSH.out.2.2.1 (Option.some.inj e).symm))
         have bR := HR2.out
         have bS := HBx.out
         have hB5 : Blk w5.drew R 46 #[.map (some b1), .map (some b2)] := (h2'.block R bR.lt (fun e => HSH.out.1 (Option.some.inj e).symm)).trans bR
         have hS5 : Blk w5.drew w.heap.size 48 #[.int .i64 p, .bool wk] := (h2'.block w.heap.size bS.lt (fun e => HGL.out (Option.some.inj e).symm)).trans bS
         have e1 := hB5.cell 1
         have e2 := hS5.cell 0
         obtain ⟨w6, hup, hm6, hg6, hz6⟩ := hM5.upd (by omega) Try.underlying44 HP.out (.slice (some ⟨g, 0, none⟩) (l.length - 1) cap)
         have HR5 := Lib.hid h1
         have HG5 := Lib.hid h2'
         have HZ5 := Lib.hid h3'
         have hB6 : Blk w6 R 46 #[.map (some b1), .map (some b2)] := (hg6.block R hB5.lt (fun e => HH.out.ne.2.1 (Option.some.inj e))).trans hB5
         have f1 := hB6.cell 1
         have hS6 : Blk w6 w.heap.size 48 #[.int .i64 p, .bool wk] := (hg6.block w.heap.size hS5.lt (fun e => by have := Option.some.inj e; have := HH.out.lt; omega)).trans hS5
         have f2 := hS6.cell 0
         have HM6 := Lib.hid hm6
         have HG6 := Lib.hid hg6
         have HZ6 := Lib.hid hz6
         clear h1 h2 h2' h3 h3' hM5 bR bS hB5 hS5 hB6 hS6 hm6 hg6 hz6 d1 d2 d3)
      | fail)
    go_region_held3 (fun W => W.cell? ⟨R, 1, none⟩ = some (.map (some b2)) ∧ W.cell? ⟨w.heap.size, 0, none⟩ = some (.int .i64 p)) (first | exact ⟨e1, e2⟩ | exact ⟨f1, f2⟩) (fail)
    go_wp2
    go_ret
    have h1 := H1.out
    have z1 := HZ.out
    have z5 := HZ5.out
    have z6 : w6.heap.size = w5.heap.size := HZ6.out
    have hlt := HH.out.lt
    have q6 : ∀ j, j < w2.heap.size → j ≠ b2 → g ≠ j → w6.heap[j]? = w2.heap[j]? := fun j hj h2 hv => (HG6.out.block j (by show j < w5.heap.size; omega) (fun e => h2 (Option.some.inj e))).trans (HG5.out.block j hj (fun e => hv (Option.some.inj e).symm))
    have hpE := HPE.out
    subst hpE
    have hlE := HLE.out
    have i2 := HH.out.m2.vd
    have hdl := atL_del Z x s.place
    rw [hlE, HK3.out] at hdl
    have hOB : (slc D2 s.place).ownBlock = some g := by rw [HVE.out]; rfl
    refine ⟨_, D2.put (.int .i64 s.place) (.held (.slice (some ⟨g, 0, none⟩) (l.length - 1) cap)), rfl, rem_done HH.out HL.out (by omega) (HM.out.off (q6 b1 (by omega) HH.out.ne.2.2 HSH.out.2.1)) HM6.out ?_ ?_ ?_ ?_ ?_ (fun j hj h1 h2 h3 => (q6 j (by omega) h2 (fun e => h3 (by rw [hOB, e]))).trans (HQ.out j hj h1)), ?_⟩
    · exact fun q hq => vl_put_ne hq _
    · rw [i2.size_put]
      have : (vl D2 s.place).isSome = true := by
        have := HVE.out
        unfold slc at this
        cases hv : vl D2 s.place with
        | none => rw [hv] at this; cases this
        | some u => rfl
      rw [if_pos this]
      omega
    · rw [hdl, List.length_eraseIdx, if_pos (by omega)]
      unfold slc
      rw [vl_put i2.tidy.isMap]
      exact row_keep HR5.out (fun j hj => by cases hj; exact HG6.out.block g (by show g < w5.heap.size; omega) (fun e => HSH.out.2.2.1 (Option.some.inj e)))
    · intro he
      rw [hdl] at he
      have := congrArg List.length he
      rw [List.length_eraseIdx, if_pos (by omega)] at this
      simp at this
      omega
    · intro j hj
      unfold slc at hj
      rw [vl_put i2.tidy.isMap] at hj
      cases hj
      exact hOB
    · refine (((Kp.of HW.out).step HG.out (fun j e => ?_)).step HG5.out (fun j e => ?_)).drew.step HG6.out (fun j e => ?_)
      · rw [← Option.some.inj e]; exact HH.out.nR.2.1
      · rw [← Option.some.inj e]; exact HSH.out.2.2.2
      · rw [← Option.some.inj e]; exact HH.out.nR.2.2
end
end Go.Proofs.Ytgfaegnpogdneaa
