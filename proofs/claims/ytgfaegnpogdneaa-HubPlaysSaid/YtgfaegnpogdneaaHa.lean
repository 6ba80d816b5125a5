/- The hub: Add. -/
import Derived.Test.YtgfaegnpogdneaaHk
namespace Go.Proofs.Ytgfaegnpogdneaa
open Go.RowKit Go.Maps
open Go.Lib
set_option linter.unusedVariables false
set_option linter.unusedSimpArgs false
set_option maxRecDepth 100000
/-- 'm[k] = v' at the operation. -/
theorem wpList_upd {w : World} {ops : Array Oper} {rest : List Oper} {o : Oper} {a : Act} {Q : Exit → Act → World → Prop} (hg : o.guard = none) (m x v : Operand) (t e : TypeId) (hop : o.op = Op.mapUpdate t m x v) (ht : Try.prog.underlying t = some (.map 3 e))
    (b : Nat) (D : VD) (h : Vm w b D) (hs : Maps.size D ≤ 1000000) (hm : a.eval m = .map (some b)) (k : Int) (hk : wf k) (hx : a.eval x = .int .i64 k) (u : Value) (hv : a.eval v = u)
    (hK : ∀ w2, Vm w2 b (D.put (.int .i64 k) (.held u)) → w.grownBy w2 (some b) → w2.heap.size = w.heap.size → wpList Try.prog ops Q rest (a.put o.dst undef) w2) : wpList Try.prog ops Q (o :: rest) a w := by
  refine wpList_plain hg fun K' hK' => ?_
  obtain ⟨w', hrun, r1, r2, r3⟩ := h.upd hs ht hk u
  unfold Oper.wp
  simp [execOp, hop, hm, hx, hv, hrun, Result.andThen]
  exact hK' _ _ (hK w' r1 r2 r3)
theorem Kp.alloc {No : Nat → Prop} {w W : World} (h : Kp No w W) (o : Obj) : Kp No w (W.alloc o) := ⟨h.os, h.tape, h.output, Nat.le_trans h.size (by simp), fun j hj hn => (Below.heap_alloc W o j (Nat.lt_of_lt_of_le hj h.size)).trans (h.block j hj hn)⟩
theorem Kp.mono {No No' : Nat → Prop} {w w' : World} (h : Kp No' w w') (hn : ∀ j, No j → No' j) : Kp No w w' := ⟨h.os, h.tape, h.output, h.size, fun j hj hN => h.block j hj (hn j hN)⟩
theorem Kp.step {No : Nat → Prop} {w W W' : World} {row : Option Nat} (h : Kp No w W) (hg : W.grownBy W' row) (hn : ∀ j, row = some j → ¬ No j) : Kp No w W' := h.trans (Kp.grown hg hn)
section
variable {w W : World} {R b1 b2 B n : Nat} {No : Nat → Prop} {Z : List Slp} {D1 D2 : VD}
theorem add_done (h : Hb w R b1 b2 B No n Z D1 D2) {x p : Int} (hx : look x Z = none) (wx : wf x) (wp : wf p) {g cap : Nat} (hsz : w.heap.size ≤ W.heap.size)
    (v1 : Vm W b1 (D1.put (.int .i64 x) (.held (sv ⟨x, p, false⟩)))) (v2 : Vm W b2 (D2.put (.int .i64 p) (.held (.slice (some ⟨g, 0, none⟩) ((atL Z p).length + 1) cap))))
    (hrow : W.ownsRow B 3 1 (.slice (some ⟨g, 0, none⟩) ((atL Z p).length + 1) cap) ((atL Z p).length + 1) (ivs (atL Z p) ++ [.int .i64 x])) (hg : (slc D2 p).ownBlock = some g ∨ w.heap.size ≤ g)
    (hkeep : ∀ j, j < w.heap.size → j ≠ b1 → j ≠ b2 → (slc D2 p).ownBlock ≠ some j → W.heap[j]? = w.heap[j]?) :
    Hb W R b1 b2 B No (n + 1) (Z ++ [⟨x, p, false⟩]) (D1.put (.int .i64 x) (.held (sv ⟨x, p, false⟩))) (D2.put (.int .i64 p) (.held (.slice (some ⟨g, 0, none⟩) ((atL Z p).length + 1) cap))) := by
  have i1 := h.m1.vd
  have i2 := h.m2.vd
  have hl := h.lt
  have s1 : (vl D1 x).isSome = false := by rw [slv h, hx]; rfl
  have sp : slc (D2.put (.int .i64 p) (.held (.slice (some ⟨g, 0, none⟩) ((atL Z p).length + 1) cap))) p = .slice (some ⟨g, 0, none⟩) ((atL Z p).length + 1) cap := by unfold slc; rw [vl_put i2.tidy.isMap]; rfl
  have sq : ∀ q, q ≠ p → slc (D2.put (.int .i64 p) (.held (.slice (some ⟨g, 0, none⟩) ((atL Z p).length + 1) cap))) q = slc D2 q := fun q hq => by unfold slc; rw [vl_put_ne hq]
  have gshun : g ≠ R ∧ g ≠ b1 ∧ g ≠ b2 ∧ ¬ No g := by
    rcases hg with hg | hg
    · exact h.shun p g hg
    · exact ⟨by omega, by omega, by omega, fun hN => by have := h.noLt g hN; omega⟩
  have gap : ∀ q, q ≠ p → (slc D2 q).ownBlock ≠ some g := fun q hq e => by
    rcases hg with hg | hg
    · exact h.apart q p g hq e hg
    · have := ((h.row q).lt g e).2
      omega
  have z2 : Maps.size (D2.put (.int .i64 p) (.held (.slice (some ⟨g, 0, none⟩) ((atL Z p).length + 1) cap))) ≤ n + 1 := by
    rw [i2.size_put]
    have := h.s2
    split <;> omega
  refine ⟨(hkeep R hl.1 h.ne.1 h.ne.2.1 (fun e => (h.shun p R e).1 rfl)).trans h.box, v1, v2, fun y => ?_, ?_, z2, ?_, ?_, ?_, fun q => ?_, fun q hq => ?_, fun q j hj => ?_, fun q r j hqr hq hr => ?_, h.ne, h.nR, h.ge, fun j hj => Nat.lt_of_lt_of_le (h.noLt j hj) hsz, h.noB⟩
  · rw [look_append]
    by_cases e : y = x
    · subst e
      rw [vl_put i1.tidy.isMap, hx]
      show some _ = ((none : Option Slp).or (if y = y then _ else none)).map sv
      rw [if_pos rfl]; rfl
    · rw [vl_put_ne e, h.d1]
      show _ = ((look y Z).or (if x = y then _ else none)).map sv
      rw [if_neg (fun h => e h.symm)]
      cases look y Z <;> rfl
  · rw [i1.size_put, s1, h.s1]
    simp
  · have := h.zn
    simp; omega
  · rw [List.map_append, List.nodup_append]
    refine ⟨h.one, by simp, fun a ha b hb => ?_⟩
    obtain ⟨s, hs, rfl⟩ := List.mem_map.1 ha
    simp at hb
    subst hb
    exact look_none hx s hs
  · intro s hs
    rcases List.mem_append.1 hs with hs | hs
    · exact h.wfz s hs
    · rw [List.mem_singleton.1 hs]; exact ⟨wx, wp⟩
  · rw [atL_append]
    by_cases e : q = p
    · subst e
      rw [sp]
      show World.ownsRow _ _ _ _ _ (if q = q then atL Z q ++ [x] else _).length (ivs (if q = q then atL Z q ++ [x] else _))
      rw [if_pos rfl, ivs_snoc, List.length_append]
      exact hrow
    · rw [sq q e]
      show World.ownsRow _ _ _ _ _ (if p = q then _ else atL Z q).length (ivs (if p = q then _ else atL Z q))
      rw [if_neg (fun h => e h.symm)]
      exact row_keep (h.row q) (fun j hj => hkeep j ((h.row q).lt j hj).2 (h.shun q j hj).2.1 (h.shun q j hj).2.2.1 (fun e2 => h.apart q p j e hj e2))
  · rw [atL_append] at hq
    by_cases e : q = p
    · subst e
      exfalso
      change (if q = q then atL Z q ++ [x] else _) = [] at hq
      rw [if_pos rfl] at hq
      simp at hq
    · change (if p = q then _ else atL Z q) = [] at hq
      rw [if_neg (fun h => e h.symm)] at hq
      rw [vl_put_ne e]
      exact h.emp q hq
  · by_cases e : q = p
    · subst e
      rw [sp] at hj
      cases hj
      exact gshun
    · rw [sq q e] at hj
      exact h.shun q j hj
  · by_cases e : q = p
    · subst e
      rw [sp] at hq
      cases hq
      rw [sq r (fun h => hqr h.symm)] at hr
      exact gap r (fun h => hqr h.symm) hr
    · rw [sq q e] at hq
      by_cases e2 : r = p
      · subst e2
        rw [sp] at hr
        cases hr
        exact gap q e hq
      · rw [sq r e2] at hr
        exact h.apart q r j hqr hq hr
theorem add_no (h : Hb w R b1 b2 B No n Z D1 D2) (x p : Int) (hx : wf x) (hl : (look x Z).isSome = true) : Calls Try.prog 9 #[.pointer (some ⟨R, 0, none⟩), .int .i64 x, .int .i64 p] w fun e w' => e = .returned (.bool false) ∧ Below w.heap.size w w' := by
  have c0 := h.c0
  have hlk := (h.m1.look Try.underlying43 (zero48 w) hx).1
  rw [h.d1] at hlk
  obtain ⟨s, hs⟩ := Option.isSome_iff_exists.1 hl
  rw [hs] at hlk
  simp only [Option.map_some, Option.getD_some, Option.isSome_some, sv] at hlk
  clear h hl hs
  go_enter Try.func9, Try.ntmps9
  go_wp2
  go_ret
  exact ⟨rfl, (Below.refl _ _).alloc (Nat.le_refl _) _⟩
set_option maxHeartbeats 4000000 in
theorem add_yes (h : Hb w R b1 b2 B No n Z D1 D2) (hn : n ≤ 1000) (x p : Int) (hx : wf x) (hp : wf p) (hl : look x Z = none) : Calls Try.prog 9 #[.pointer (some ⟨R, 0, none⟩), .int .i64 x, .int .i64 p] w fun e w' => ∃ D3 D4, e = .returned (.bool true) ∧ Hb w' R b1 b2 B No (n + 1) (Z ++ [⟨x, p, false⟩]) D3 D4 ∧ Kp No w w' := by
  obtain ⟨i0, hi, hz0, hz1, hz2⟩ := info_parts info3
  have HH := Lib.hid h
  have c0 := h.c0
  have hlk := (h.m1.look Try.underlying43 (zero48 w) hx).1
  rw [h.d1, hl] at hlk
  simp only [Option.map_none, Option.getD_none, Option.isSome_none] at hlk
  have HX := Lib.hid hx
  have HP := Lib.hid hp
  have HL := Lib.hid hl
  have c0a : (w.alloc (.cells #[.int .i64 0, .bool false] 48)).cell? ⟨R, 0, none⟩ = some (.map (some b1)) := ((h.kept ((Below.refl _ _).alloc (Nat.le_refl _) _)).c0)
  have HV := Lib.hid ((h.kept ((Below.refl _ _).alloc (Nat.le_refl _) (.cells #[.int .i64 0, .bool false] 48))))
  have hs1 : Maps.size D1 ≤ 1000000 := by have := h.s1; have := h.zn; omega
  clear h hx hp hl
  go_enter Try.func9, Try.ntmps9
  go_wp2_with (first
    | (at_mapUpdate
       refine wpList_upd rfl _ _ _ 43 48 rfl Try.underlying43 b1 D1 HV.out.m1 hs1 rfl x HX.out rfl (sv ⟨x, p, false⟩) rfl ?_
       intro w2 hm hg hsz
       have HM := Lib.hid hm
       have HG := Lib.hid hg
       have HZ := Lib.hid hsz
       clear hm hg hsz)
    | fail)
  have HW := Lib.hid ((Below.refl w.heap.size w).alloc (Nat.le_refl _) (.cells #[.int .i64 0, .bool false] 48))
  have hwz : (w.alloc (.cells #[.int .i64 0, .bool false] 48)).heap.size = w.heap.size + 1 := by simp
  have HWZ := Lib.hid hwz
  have HQ := Lib.hid (show ∀ j, j < w.heap.size → j ≠ b1 → w2.heap[j]? = w.heap[j]? from fun j hj hb => (HG.out.block j (by simp; omega) (fun e => hb (Option.some.inj e))).trans (Below.heap_alloc _ _ _ hj))
  have hlt := HH.out.lt
  have HR2 := Lib.hid (show Blk w2 R 46 #[.map (some b1), .map (some b2)] from (HQ.out R hlt.1 HH.out.ne.1).trans HH.out.box)
  have HM2 := Lib.hid (HH.out.m2.off (HQ.out b2 hlt.2.2 HH.out.ne.2.2.symm))
  have HRow := Lib.hid (row_keep (h := HH.out.row p) (w2 := w2) (fun j hj => HQ.out j ((HH.out.row p).lt j hj).2 (HH.out.shun p j hj).2.1))
  have HS0 := Lib.hid (fun (W : World) (hk : Kp (fun j => j = R) w2 W) => show W.cell? ⟨R, 1, none⟩ = some (.map (some b2)) from (show Blk W R 46 #[.map (some b1), .map (some b2)] from (hk.block R HR2.out.lt rfl).trans HR2.out).cell 1)
  have hl1 : (Instr.lookup 44 (.map (some b2)) (.int .i64 p) false).run Try.prog w2.drew = .ok (slc D2 p) w2.drew := ((HM2.out.off (w' := w2.drew) rfl).look Try.underlying44 (zero34 _) HP.out).2
  have hl2 : (Instr.lookup 44 (.map (some b2)) (.int .i64 p) false).run Try.prog (w2.alloc (.cells #[.int .i64 x] 3)).drew = .ok (slc D2 p) (w2.alloc (.cells #[.int .i64 x] 3)).drew := ((HM2.out.off (w' := (w2.alloc (.cells #[.int .i64 x] 3)).drew) (Below.heap_alloc w2 _ _ HM2.out.lt)).look Try.underlying44 (zero34 _) HP.out).2
  have HSH := Lib.hid (HH.out.shun p)
  have hlen : (atL Z p).length ≤ 1000 := by
    have := HH.out.zn
    unfold atL
    rw [List.length_map]
    have := List.length_filter_le (fun s : Slp => decide (s.place = p)) Z
    omega
  have hs2 : Maps.size D2 ≤ 1000000 := by have := HH.out.s2; omega
  obtain ⟨V, hV⟩ : ∃ V, slc D2 p = V := ⟨_, rfl⟩
  rw [hV] at hl1 hl2 HRow HSH
  have HVE := Lib.hid hV
  have k0 : Kp (fun j => j = R) w2 w2 := Kp.refl _ _
  have SS := HS0.out w2.drew k0.drew
  have hBs : B ≤ w2.heap.size := by have := HZ.out; have := HH.out.ge.1; omega
  obtain ⟨m, hm⟩ : ∃ m, (atL Z p).length = m := ⟨_, rfl⟩
  obtain ⟨vs, hvs⟩ : ∃ vs, ivs (atL Z p) = vs := ⟨_, rfl⟩
  have HME := Lib.hid hm
  have HVS := Lib.hid hvs
  rw [hm] at hlen
  rw [hm, hvs] at HRow
  clear hV hm hvs hlk c0 c0a hwz hlt
  go_region_held3 (fun W => W.cell? ⟨R, 1, none⟩ = some (.map (some b2))) (first | exact SS | exact HS0.out _ (by (repeat (first | with_reducible assumption | with_reducible exact Kp.refl _ _ | with_reducible refine Kp.alloc ?_ _ | with_reducible refine Kp.drew ?_)))) (first
    | (refine step_append_lies _ rfl (.tmp 36) (.tmp 38) 34 rfl B 3 i0 _ 1 8 Try.underlying34 hi hz0 hz1 hz2 rfl (by decide) V m vs rfl ?_ ⟨w2.heap.size, 0, none⟩ 1 1 [.int .i64 x] rfl rfl (World.news_of_block (cs := #[.int .i64 x]) (t := 3) (fr := (0, 0)) ?_) (by simp [Value.oneCell']) (by decide) (by unfold maxLen; omega) (by omega) ?_ _ rfl ?_
       focus ((repeat (first | with_reducible exact HRow.out | with_reducible refine row_alloc ?_ _ | with_reducible refine row_drew ?_)); done)
       focus (change Blk _ _ 3 #[.int .i64 x]; (repeat (first | ((with_reducible refine Blk.newEq _ _ ?_); focus (simp; done)) | with_reducible refine Blk.alloc ?_ _ | with_reducible refine Blk.drew ?_)); done)
       focus (refine Nat.le_trans hBs (show Sz w2 _ from ?_); (repeat (first | with_reducible assumption | with_reducible exact Sz.refl _ | with_reducible refine Sz.alloc ?_ _ | with_reducible refine Sz.drew ?_)); done)
       intro n1 k1 w1 hw hg hat hlt
       have hK1 : Kp (fun j => j = R) w2 w1 := Kp.step (by (repeat (first | with_reducible assumption | with_reducible exact Kp.refl _ _ | with_reducible refine Kp.alloc ?_ _ | with_reducible refine Kp.drew ?_))) hg (fun j e1 e2 => (HSH.out j e1).1 e2)
       have HKB := Lib.hid (show Kp (fun j => j = b2) w2 w1 from Kp.step (by (repeat (first | with_reducible assumption | with_reducible exact Kp.refl _ _ | with_reducible refine Kp.alloc ?_ _ | with_reducible refine Kp.drew ?_))) hg (fun j e1 e2 => (HSH.out j e1).2.2.1 e2))
       have HK2 := Lib.hid (show Kp (fun j => (∃ i, V.ownBlock = some i ∧ i = j) → False) w2 w1 from Kp.step (by (repeat (first | with_reducible assumption | with_reducible exact Kp.refl _ _ | with_reducible refine Kp.alloc ?_ _ | with_reducible refine Kp.drew ?_))) hg (fun j e1 e2 => e2 ⟨j, e1, rfl⟩))
       have HW1 := Lib.hid hw
       have HAT := Lib.hid (show V.ownBlock = some n1 ∨ w2.heap.size ≤ n1 from hat.imp id (fun e => by rw [e]; show Sz w2 _; (repeat (first | with_reducible assumption | with_reducible exact Sz.refl _ | with_reducible refine Sz.alloc ?_ _ | with_reducible refine Sz.drew ?_))))
       obtain ⟨w5, hup, hm5, hg5, hz5⟩ := (HM2.out.off (HKB.out.block b2 HM2.out.lt rfl)).upd hs2 Try.underlying44 HP.out (.slice (some ⟨n1, 0, none⟩) (m + 1) k1)
       have HM5 := Lib.hid hm5
       have HG5 := Lib.hid hg5
       have hK5 : Kp (fun j => j = R) w2 w5 := Kp.step hK1 hg5 (fun j e1 e2 => HH.out.ne.2.1 ((Option.some.inj e1).trans e2).symm)
       clear hw hg hat hlt hm5 hg5))
  all_goals (
    go_wp2
    go_ret
    have z1 := HWZ.out
    have z2 := HZ.out
    have z3 := HK2.out.size
    have hlt := HH.out.lt
    have q5 : ∀ j, j < w2.heap.size → j ≠ b2 → V.ownBlock ≠ some j → w5.heap[j]? = w2.heap[j]? := fun j hj h2 hv => (HG5.out.block j (by omega) (fun e => h2 (Option.some.inj e))).trans (HK2.out.block j hj (fun ⟨i, e1, e2⟩ => hv (e2 ▸ e1)))
    refine ⟨D1.put (.int .i64 x) (.held (sv ⟨x, p, false⟩)), D2.put (.int .i64 p) (.held (.slice (some ⟨n1, 0, none⟩) (m + 1) k1)), rfl, ?_, ?_⟩
    · have e1 := HME.out
      have e2 := HVS.out
      have e3 := HVE.out
      subst e1 e2 e3
      refine add_done HH.out HL.out HX.out HP.out (by omega) ?_ HM5.out ?_ (HAT.out.imp id (fun h => by omega)) (fun j hj h1 h2 h3 => (q5 j (by omega) h2 h3).trans (HQ.out j hj h1))
      · exact HM.out.off (q5 b1 (by omega) HH.out.ne.2.2 (fun e => (HSH.out _ e).2.1 rfl))
      · refine row_keep HW1.out (fun j hj => ?_)
        cases hj
        refine HG5.out.block n1 ((HW1.out.lt n1 rfl).2) (fun e => ?_)
        have e := Option.some.inj e
        rcases HAT.out with h | h
        · exact (HSH.out n1 h).2.2.1 e
        · omega
    · refine (((Kp.of HW.out).step HG.out (fun j e => ?_)).trans (HK2.out.mono (fun j hj ⟨i, e1, e2⟩ => (HSH.out i e1).2.2.2 (e2 ▸ hj)))).step HG5.out (fun j e => ?_)
      · rw [← Option.some.inj e]; exact HH.out.nR.2.1
      · rw [← Option.some.inj e]; exact HH.out.nR.2.2)
end
end Go.Proofs.Ytgfaegnpogdneaa
