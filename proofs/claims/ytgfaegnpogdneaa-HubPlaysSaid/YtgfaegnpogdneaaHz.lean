/- The reference's hub: Remove. -/
import Derived.Test.YtgfaegnpogdneaaHy
import Derived.Deep.RegionLaw
namespace Go.Proofs.Ytgfaegnpogdneaa
open Go.RowKit Go.Maps
set_option linter.unusedVariables false
set_option linter.unusedSimpArgs false
set_option maxRecDepth 100000
section
variable {P : Program} {w : World}
theorem run_append_nought (base : Nat) (t ty e : TypeId) (i : TypeInfo) (size : Nat) (ht : P.underlying t = some (.slice e)) (hi : P.info? e = some i)
    (v : Value) (n : Nat) (xs : List Value) (hown : w.ownsRow base e size v n xs) (A : Option Addr) (c : Nat) :
    (Builtin.append_ #[t, t] ty #[v, .slice A 0 c]).run P w = .ok v w := by
  have hlc : ∀ a : Addr, (loadCells a 0).run P w = .ok #[] w := fun a => by simp [loadCells, loadCellsFrom]
  rcases hown.2 with ⟨rfl, rfl⟩ | ⟨g, cap, cur, rfl, _, _, hnc, _⟩
  · cases A <;> simp [Builtin.append_, run_underlying ht, sizeOf, typeInfo, hi, Builtin.lenOf, Builtin.firstCells, hlc, Result.andThen]
  · cases A <;> simp [Builtin.append_, run_underlying ht, sizeOf, typeInfo, hi, Builtin.lenOf, Builtin.firstCells, hlc, hnc, storeCells, Result.andThen]
end
theorem step_append_any {P : Program} (w : World) {ops : Array Oper} {o : Oper} {a : Act} {K : Act → World → Prop} {Q : Exit → Act → World → Prop} {E : Prop} (hgd : o.guard = none) (s x : Operand) (t : TypeId)
    (ho : o.op = .call { callee := .builtin .append, args := #[s, x], argTypes := #[t, t] })
    (base : Nat) (e : TypeId) (i : TypeInfo) (z : Value) (size bytes : Nat) (ht : P.underlying t = some (.slice e)) (hi : P.info? e = some i) (hz : i.zero = some z)
    (hsize : i.size = size) (hby : i.bytes = bytes) (hzs : z.cells.size = size) (hsz : 0 < size)
    (v : Value) (n : Nat) (xs : List Value) (hs : a.eval s = v) (hown : w.ownsRow base e size v n xs)
    (A : Option Addr) (m c : Nat) (news : List Value) (hx : a.eval x = .slice A m c) (hl : news.length = m * size) (hA : 0 < m → ∃ ad, A = some ad ∧ ∀ j u, news[j]? = some u → w.cell? (ad.add j) = some u) (h1 : ∀ u ∈ news, u.oneCell' = true)
    (h63 : n + m ≤ maxLen) (hbytes : (n + m) * bytes ≤ 140737488355328) (hbase : base ≤ w.heap.size)
    (h : ∀ v' w', w'.ownsRow base e size v' (n + m) (xs ++ news) → w.grownBy w' v.ownBlock → (∀ k, v'.ownBlock = some k → v.ownBlock = some k ∨ w.heap.size ≤ k) → K (a.put o.dst v') w') :
    if Region.wanted o (yielded ops a.tmps) = true then Oper.wp P o a w K Q else E := by
  rcases Nat.eq_zero_or_pos m with h0 | h0
  · subst h0
    have hnil : news = [] := List.length_eq_zero_iff.1 (by rw [hl]; omega)
    subst hnil
    have hw : Region.wanted o (yielded ops a.tmps) = true := by simp [Region.wanted, hgd]
    rw [if_pos hw]
    have hrun := run_append_nought (P := P) (w := w) base t o.type e i size ht hi v n xs hown A c
    unfold Oper.wp
    simp [execOp, ho, resolve, invoke, builtin, hs, hx, hrun, Result.andThen]
    exact h v w (by simpa using hown) (World.grownBy.refl w _) (fun k hk => .inl hk)
  · obtain ⟨ad, rfl, hc⟩ := hA h0
    refine step_append_lies w hgd s x t ho base e i z size bytes ht hi hz hsize hby hzs hsz v n xs hs hown ad m c news hx hl hc h1 h0 h63 hbytes hbase _ rfl ?_
    intro g cap w' h2 h3 h4 h5
    exact h _ w' h2 h3 (fun k hk => by
      cases hk
      rcases h4 with h4 | h4
      · exact .inl h4
      · exact .inr (by show _ ≤ g; omega))
theorem delL_idx {x : Int} : ∀ {Z : List Slp}, (Z.map Slp.who).Nodup → (look x Z).isSome = true → delL Z x = Z.take (idx x Z) ++ Z.drop (idx x Z + 1)
  | [], _, h => by cases h
  | t :: Z, hn, h => by
    rw [List.map_cons, List.nodup_cons] at hn
    unfold delL idx
    rw [List.filter_cons]
    by_cases e : t.who = x
    · rw [if_neg (by simp [e]), if_pos e]
      rw [List.take_zero, List.nil_append, List.drop_succ_cons, List.drop_zero, List.filter_eq_self]
      intro s hs
      have : s.who ≠ x := fun e2 => hn.1 (List.mem_map.2 ⟨s, hs, e2.trans e.symm⟩)
      simpa using this
    · rw [if_pos (by simpa using e), if_neg e, List.take_succ_cons, List.drop_succ_cons]
      have h' : (look x Z).isSome = true := by
        unfold look at h
        rwa [if_neg e] at h
      have := delL_idx hn.2 h'
      unfold delL at this
      rw [this]
      rfl
section
variable {w W : World} {g C : Nat} {V : Value} {Z : List Slp}
theorem rrem_no (h : Rh w g C V Z) (hn : Z.length ≤ 1000) (x : Int) (hl : look x Z = none) : Calls Try.prog 15 #[.pointer (some ⟨g, 0, none⟩), .int .i64 x] w fun e w' => e = .returned (.bool false) ∧ w' = w := by
  have HI := Lib.hid (ridx_any h (by omega) x)
  have e : idxV x Z = -1 := by unfold idxV; rw [hl]; rfl
  rw [e] at HI
  clear h hl e
  go_enter Try.func15, Try.ntmps15
  go_wp2_with (first | (go_at_call 23; (with_reducible refine (HI.out).mono ?_); rintro _ x1 ⟨rfl, hw⟩; replace hw := hw.symm; subst hw) | fail)
  go_ret
  exact ⟨rfl, rfl⟩
theorem scells_one (Y : List Slp) : ∀ u ∈ scells Y, u.oneCell' = true := by
  intro u hu
  unfold scells at hu
  obtain ⟨s, _, hs⟩ := List.mem_flatMap.1 hu
  unfold cells3 at hs
  simp at hs
  rcases hs with rfl | rfl | rfl <;> rfl
theorem row3_drew {W : World} {B : Nat} {v : Value} {n : Nat} {vs : List Value} (h : W.ownsRow B 52 3 v n vs) : W.drew.ownsRow B 52 3 v n vs := row3_keep h (fun _ _ => rfl)
theorem size52 (w : World) : (sizeOf 52).run Try.prog w = .ok 3 w := by kernel_rfl
theorem cut_hi (b n cap q : Nat) (hq : q ≤ cap) (W : World) : (Instr.sliceAt 27 (.slice (some ⟨b, 0, none⟩) n cap) none (some (.int .i64 (q : Int))) none).run Try.prog W = .ok (.slice (some ⟨b, 0, none⟩) q cap) W := by
  rw [run_sliceAt_slice W 27 _ _ _ _ (by exact Try.underlying27), run_slice_h W 27 _ _ _ (by exact Try.underlying27) _ _ (by omega) (by omega)]
  have e : Try.prog.elem 27 = 52 := by kernel_rfl
  rw [e, size52]
  simp only [Result.andThen, sliced, Int.toNat_natCast, Option.map_some, Nat.zero_mul, Nat.sub_zero]
  congr 2
  by_cases h : cap = 0
  · rw [if_pos h]
  · rw [if_neg h]; rfl
def tailA (b cap q : Nat) : Option Addr := if cap = q + 1 then some ⟨b, 0, none⟩ else some ⟨b, (q + 1) * 3, none⟩
theorem cut_lo (b n cap q : Nat) (hq : q + 1 ≤ n) (W : World) : (Instr.sliceAt 27 (.slice (some ⟨b, 0, none⟩) n cap) (some (.int .i64 ((q : Int) + 1))) none none).run Try.prog W = .ok (.slice (tailA b cap q) (n - (q + 1)) (cap - (q + 1))) W := by
  rw [run_sliceAt_slice W 27 _ _ _ _ (by exact Try.underlying27), run_slice_l W 27 _ _ _ (by exact Try.underlying27) _ _ (by omega) (by omega)]
  have e : Try.prog.elem 27 = 52 := by kernel_rfl
  have e2 : ((q : Int) + 1).toNat = q + 1 := by omega
  rw [e, size52, e2]
  simp only [Result.andThen, sliced, Option.map_some, tailA]
  congr 2
  by_cases h : cap = q + 1
  · rw [if_pos h, if_pos h]
  · rw [if_neg h, if_neg h, add_plain, Nat.zero_add]
theorem Kp.keepb {No : Nat → Prop} {w W : World} (h : Kp No w W) {j : Nat} (hj : j < w.heap.size) (hn : No j) : W.heap[j]? = w.heap[j]? := h.block j hj hn
set_option maxHeartbeats 8000000 in
theorem rrem_yes (h : Rh w g C V Z) (hC : C ≤ w.heap.size) (hn : Z.length ≤ 1000) (hone : (Z.map Slp.who).Nodup) (x : Int) (hl : (look x Z).isSome = true) : Calls Try.prog 15 #[.pointer (some ⟨g, 0, none⟩), .int .i64 x] w fun e w' => ∃ V', e = .returned (.bool true) ∧ Rh w' g C V' (delL Z x) ∧ Rk w w' g V V' := by
  obtain ⟨i0, hi, hz0, hz1, hz2⟩ := info_parts info52
  have HI := Lib.hid (ridx_any h (by omega) x)
  have e : idxV x Z = (idx x Z : Int) := by unfold idxV; rw [if_pos hl]
  rw [e] at HI
  have HD := Lib.hid (delL_idx hone hl)
  obtain ⟨s, hs⟩ := Option.isSome_iff_exists.1 hl
  obtain ⟨hq1, hq2⟩ := idx_some hs
  obtain ⟨q, hqE⟩ : ∃ q, idx x Z = q := ⟨_, rfl⟩
  rw [hqE] at HI HD hq1 hq2
  obtain ⟨b, cap, hV, hcap, hcm, hbl, hCb, hcells⟩ := row3_slice h.row (by omega)
  subst hV
  have HH := Lib.hid h
  have HC := Lib.hid (fun (W : World) (hb : W.heap[b]? = w.heap[b]?) j u (hj : (scells Z)[j]? = some u) => show W.cell? ⟨b, j, none⟩ = some u from (World.cell?_of_block (a := ⟨b, j, none⟩) hb).trans (hcells j u hj).1)
  have hgb : g ≠ b := fun e => h.ne (by rw [e]; rfl)
  have hqI : (q : Int) < (Z.length : Int) := by omega
  have hq0 : (0 : Int) ≤ (q : Int) := by omega
  have hq2I : (q : Int) + 1 ≤ (Z.length : Int) := by omega
  have hqc : (q : Int) ≤ (cap : Int) := by omega
  have hws : IntKind.i64.wrap ((q : Int) + 1) = (q : Int) + 1 := IntWalk.i64_in _ (by omega)
  have HS0 := Lib.hid (fun (W : World) (hk : Kp (fun j => j = g ∨ j = b) w W) => show W.cell? ⟨g, 0, none⟩ = some (.slice (some ⟨b, 0, none⟩) Z.length cap) from (show Blk W g 29 #[.slice (some ⟨b, 0, none⟩) Z.length cap] from (hk.block g HH.out.box.lt (.inl rfl)).trans HH.out.box).cell 0)
  have k0 : Kp (fun j => j = g ∨ j = b) w w := Kp.refl _ _
  have ra := HS0.out w k0
  have hE1 : (w.alloc (.cells #[] 52)).ownsRow C 52 3 (.slice (some ⟨w.heap.size, 0, none⟩) 0 0) 0 [] := World.ownsRow_lit w #[] 0 hC (by decide) rfl
  have hE2 : (w.alloc (.cells #[] 52)).drew.ownsRow C 52 3 (.slice (some ⟨w.heap.size, 0, none⟩) 0 0) 0 [] := row3_drew hE1
  have hKB0 : KB w.heap.size w w := ⟨Nat.le_refl _, Below.refl _ _⟩
  have HTL := Lib.hid (show (scells (Z.take q)).length = q * 3 from by rw [scells_len, List.length_take, Nat.min_eq_left (by omega)])
  have HTL2 := Lib.hid (show (scells (Z.drop (q + 1))).length = (Z.length - (q + 1)) * 3 from by rw [scells_len, List.length_drop])
  have hspl : scells Z = scells (Z.take q) ++ scells (Z.drop q) := by rw [← scells_append, List.take_append_drop]
  have hspl2 : scells Z = scells (Z.take (q + 1)) ++ scells (Z.drop (q + 1)) := by rw [← scells_append, List.take_append_drop]
  have HC1 := Lib.hid (fun (W : World) (hk : Kp (fun j => j = g ∨ j = b) w W) j u (hj : (scells (Z.take q))[j]? = some u) => show W.cell? ((⟨b, 0, none⟩ : Addr).add j) = some u from by
    rw [add_plain, Nat.zero_add]
    exact HC.out W (hk.block b hbl (.inr rfl)) j u (by rw [hspl, List.getElem?_append_left (List.getElem?_eq_some_iff.1 hj).1]; exact hj))
  have HC2 := Lib.hid (fun (W : World) (hk : Kp (fun j => j = g ∨ j = b) w W) j u (hj : (scells (Z.drop (q + 1)))[j]? = some u) => show W.cell? ((⟨b, (q + 1) * 3, none⟩ : Addr).add j) = some u from by
    rw [add_plain]
    have hl : (scells (Z.take (q + 1))).length = (q + 1) * 3 := by rw [scells_len, List.length_take, Nat.min_eq_left (by omega)]
    exact HC.out W (hk.block b hbl (.inr rfl)) _ u (by rw [hspl2, List.getElem?_append_right (by omega), hl, Nat.add_sub_cancel_left]; exact hj))
  have HON := Lib.hid (fun (Y : List Slp) => show ∀ u ∈ scells Y, u.oneCell' = true from scells_one Y)
  clear hspl hspl2
  have rb := HS0.out (w.alloc (.cells #[] 52)) (k0.alloc _)
  have hc1 := cut_hi b Z.length cap q (by omega)
  have hc2 := cut_lo b Z.length cap q (by omega)
  have HTA := Lib.hid (show Z.length - (q + 1) > 0 → tailA b cap q = some ⟨b, (q + 1) * 3, none⟩ from fun h => by unfold tailA; rw [if_neg (by omega)])
  obtain ⟨A2, hA2⟩ : ∃ A, tailA b cap q = A := ⟨_, rfl⟩
  rw [hA2] at HTA
  simp only [hA2] at hc2
  clear h hl e hs hq2 hqE hcells hone hA2
  go_enter Try.func15, Try.ntmps15
  go_wp2_with (first | (go_at_call 23; (with_reducible refine (HI.out).mono ?_); rintro _ x1 ⟨rfl, hw⟩; replace hw := hw.symm; subst hw) | fail)
  go_region_law (first
    | (refine step_append_any _ rfl (.tmp 12) (.tmp 18) 27 rfl C 52 i0 _ 3 24 Try.underlying27 hi hz0 hz1 hz2 rfl (by decide) (.slice (some ⟨w.heap.size, 0, none⟩) 0 0) 0 [] rfl ?_ (some ⟨b, 0, none⟩) q cap (scells (Z.take q)) rfl ?_ ?_ ?_ ?_ ?_ ?_ ?_
       focus ((first | exact hE1 | exact hE2); done)
       focus (exact HTL.out; done)
       focus (exact fun _ => ⟨_, rfl, HC1.out _ (show Kp (fun j => j = g ∨ j = b) w _ from by (repeat (first | with_reducible assumption | with_reducible exact Kp.refl _ _ | with_reducible refine Kp.alloc ?_ _ | with_reducible refine Kp.drew ?_)))⟩; done)
       focus (exact HON.out _; done)
       focus (unfold maxLen; omega)
       focus (omega)
       focus (refine Nat.le_trans hC (show Sz w _ from ?_); (repeat (first | with_reducible assumption | with_reducible exact Sz.refl _ | with_reducible refine Sz.alloc ?_ _ | with_reducible refine Sz.drew ?_)); done)
       intro V1 w1 hw hg hat
       have hK1 : Kp (fun j => j = g ∨ j = b) w w1 := Kp.step (show Kp (fun j => j = g ∨ j = b) w _ from by (repeat (first | with_reducible assumption | with_reducible exact Kp.refl _ _ | with_reducible refine Kp.alloc ?_ _ | with_reducible refine Kp.drew ?_))) hg (fun j e1 e2 => by have := Option.some.inj e1; have hg1 := HH.out.box.lt; have e3 : w.heap.size = j := this; rcases e2 with e2 | e2 <;> omega)
       have hZ1 : Sz w w1 := Sz.grown (show Sz w _ from by (repeat (first | with_reducible assumption | with_reducible exact Sz.refl _ | with_reducible refine Sz.alloc ?_ _ | with_reducible refine Sz.drew ?_))) hg
       have hKA1 : KB w.heap.size w w1 := KB.grown (show KB w.heap.size w _ from by (repeat (first | with_reducible assumption | with_reducible exact hKB0 | with_reducible refine KB.alloc ?_ _ | with_reducible refine KB.drew ?_))) hg (fun j e1 => by have e3 : w.heap.size = j := Option.some.inj e1; omega)
       have rc := HS0.out w1 hK1
       have hO1 : ∀ k, V1.ownBlock = some k → w.heap.size ≤ k := fun k hk => by
         rcases hat k hk with h | h
         · have e3 : w.heap.size = k := Option.some.inj h
           omega
         · exact Nat.le_trans (show Sz w _ from by (repeat (first | with_reducible assumption | with_reducible exact Sz.refl _ | with_reducible refine Sz.alloc ?_ _ | with_reducible refine Sz.drew ?_))) h
       have HW1 := Lib.hid hw
       have HG1 := Lib.hid hg
       have HAT1 := Lib.hid hat
       clear hw hg hat)
    | (refine step_append_any _ rfl (.tmp 19) (.tmp 26) 27 rfl C 52 i0 _ 3 24 Try.underlying27 hi hz0 hz1 hz2 rfl (by decide) V1 (0 + q) ([] ++ scells (Z.take q)) rfl ?_ _ (Z.length - (q + 1)) _ (scells (Z.drop (q + 1))) rfl ?_ ?_ ?_ ?_ ?_ ?_ ?_
       focus ((repeat (first | with_reducible exact HW1.out | with_reducible refine row3_drew ?_)); done)
       focus (exact HTL2.out; done)
       focus (exact fun h => ⟨_, HTA.out h, HC2.out _ (show Kp (fun j => j = g ∨ j = b) w _ from by (repeat (first | with_reducible assumption | with_reducible exact Kp.refl _ _ | with_reducible refine Kp.alloc ?_ _ | with_reducible refine Kp.drew ?_)))⟩; done)
       focus (exact HON.out _; done)
       focus (unfold maxLen; omega)
       focus (omega)
       focus (refine Nat.le_trans hC (show Sz w _ from ?_); (repeat (first | with_reducible assumption | with_reducible exact Sz.refl _ | with_reducible refine Sz.alloc ?_ _ | with_reducible refine Sz.drew ?_)); done)
       intro V2 w2 hw hg hat
       obtain ⟨A3, c3, rfl, _⟩ := row3_sl hw
       have hK2 : KB w.heap.size w w2 := KB.grown (show KB w.heap.size w _ from by (repeat (first | with_reducible assumption | with_reducible refine KB.drew ?_))) hg (fun j e1 => hO1 j e1)
       have hZ2 : Sz w w2 := hK2.2.size
       have hO2 : ∀ k, (Value.slice A3 (0 + q + (Z.length - (q + 1))) c3).ownBlock = some k → w.heap.size ≤ k := fun k hk => by
         rcases hat k hk with h | h
         · exact hO1 k h
         · exact Nat.le_trans (show Sz w _ from by (repeat (first | with_reducible assumption | with_reducible refine Sz.drew ?_))) h
       have hb2 : Blk w2 g 29 #[.slice (some ⟨b, 0, none⟩) Z.length cap] := (hK2.2.block g HH.out.box.lt).trans HH.out.box
       have HW2 := Lib.hid hw
       have HG2 := Lib.hid hg
       have HAT2 := Lib.hid hat
       have hf2 := hb2.frozen 0
       have hc2' := hb2.cell 0
       have HB2 := Lib.hid hb2
       have HK2 := Lib.hid hK2
       have HO2 := Lib.hid hO2
       clear hw hg hat hb2 hO2))
  all_goals (
    go_wp2
    go_ret
    have hrow := HW2.out
    have hO2 := HO2.out
    simp only [Nat.zero_add, List.nil_append] at hrow hO2
    have hlen : (delL Z x).length = q + (Z.length - (q + 1)) := by rw [HD.out, List.length_append, List.length_take, List.length_drop, Nat.min_eq_left (by omega)]
    have hgl := HH.out.box.lt
    have hset : ∀ j, j ≠ g → (w2.setCell ⟨g, 0, none⟩ (.slice A3 (q + (Z.length - (q + 1))) c3)).heap[j]? = w2.heap[j]? := fun j hj => Below.heap_setCell w2 ⟨g, 0, none⟩ _ j hj
    refine ⟨_, rfl, ⟨HB2.out.set_ 0 _, ?_, fun e => by have := hO2 g e; omega, HH.out.ge⟩, ⟨HK2.out.2.os, HK2.out.2.tape, HK2.out.2.output, ?_, fun j hj h1 _ => (hset j h1).trans (HK2.out.2.block j hj), fun k hk => .inr (hO2 k hk)⟩⟩
    · rw [hlen, HD.out, scells_append]
      exact row3_keep hrow (fun j hj => hset j (by have := hO2 j hj; omega))
    · have := HK2.out.2.size
      simp [World.setCell]; exact this)
end
end Go.Proofs.Ytgfaegnpogdneaa
