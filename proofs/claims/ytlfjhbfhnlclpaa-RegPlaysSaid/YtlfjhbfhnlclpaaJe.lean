/- The registry: New, Add, Remove, walked. -/
import Derived.Test.YtlfjhbfhnlclpaaJd
namespace Go.Proofs.Ytlfjhbfhnlclpaa
open Go.RowKit
open Go.Lib
set_option linter.unusedVariables false
set_option linter.unusedSimpArgs false
set_option maxRecDepth 100000
theorem wpList_max0 {w : World} {ops : Array Oper} {rest : List Oper} {o : Oper} {a : Act} {Q : Exit → Act → World → Prop} (hgd : o.guard = none) (x y : Operand)
    (ho : o.op = .call { callee := .builtin .max, args := #[x, y], argTypes := #[3, 3] }) {p q : Int} (hx : a.eval x = .int .i64 p) (hy : a.eval y = .int .i64 q)
    (hK : wpList Try.prog ops Q rest (a.put o.dst (.int .i64 (max p q))) w) : wpList Try.prog ops Q (o :: rest) a w := by
  refine wpList_plain hgd fun K hK' => ?_
  have hrun : (Builtin.max_ #[3, 3] o.type #[.int .i64 p, .int .i64 q]).run Try.prog w = .ok (.int .i64 (max p q)) w := by
    rw [run_max_int2]
    by_cases h : q > p
    · rw [if_pos h, show max p q = q by omega]
    · rw [if_neg h, show max p q = p by omega]
  unfold Oper.wp
  simp [execOp, ho, resolve, invoke, builtin, hx, hy, hrun, Result.andThen]
  exact hK' _ _ hK
/-- What an Add, a Remove make of the names. -/
def addO (k : ByteArray) (id : Int) (L : LN) : Bool × LN := if id < 0 ∨ (getL k L).isSome = true then (false, L) else (true, insL k id L)
def remO (k : ByteArray) (id : Int) (L : LN) : Bool × LN := if id < 0 ∨ findO k L ≠ id then (false, L) else (true, delL k L)
section
variable {w : World} {r M c : Nat} {n : Int} {E : List (Int × Nat)} {L : LN}
/-- Behind a call: the registry with other names; what else there was is as it was. -/
def Went (w w' : World) (r M : Nat) (n : Int) (E : List (Int × Nat)) (L' : LN) (c : Nat) : Prop := ∃ E', Rgs w' r M n E' L' c ∧ Fx w w' (M :: E.map Prod.snd) ∧ (∀ p ∈ E', p ∈ E ∨ w.heap.size ≤ p.2) ∧ ON.KeepN w w'
theorem Went.same (h : Rgs w r M n E L c) (q : Nat) : Went w (w.drewN q) r M n E L c := ⟨E, h.drewN q, ⟨rfl, rfl, rfl, Nat.le_refl _, fun _ _ _ => rfl⟩, fun p hp => .inl hp, fun _ _ x => x⟩
theorem new_reg (m : Int) (w : World) (hm : m ≤ 9223372036854775807) (n : Int) (hn : max m 1 = n) : Calls Try.prog 10 #[.int .i64 m] w fun e w' => ∃ r M, e = .returned (.pointer (some ⟨r, 0, none⟩)) ∧ Rgs w' r M n [] [] 0 ∧ Below w.heap.size w w' ∧ w.heap.size ≤ r ∧ w.heap.size ≤ M := by
  have hn1 : 1 ≤ n := by omega
  have hn2 : n ≤ 9223372036854775807 := by omega
  have HN := Lib.hid hn
  have hmm := @run_makeMap Try.prog
  clear hn
  go_enter Try.func10, Try.ntmps10
  go_wp2_with (first
    | (refine wpList_max0 rfl (.tmp 3) (.const (.int .i64 1)) rfl rfl rfl ?hK; rw [HN.out])
    | fail)
  go_ret
  have hM : Vm ((w.alloc (.map #[] 0)).alloc (.cells #[.int .i64 n, .map (some w.heap.size)] 45)) w.heap.size (.map []) := (Vm.made w).off (Below.heap_alloc _ _ _ (by simp))
  refine ⟨w.heap.size + 1, w.heap.size, rfl, ⟨?_, ⟨_, hM, fun s => rfl, rfl⟩, fun p hp => (by cases hp), List.nodup_nil, List.nodup_nil, fun q hq => (by cases hq), List.Pairwise.nil, hn1, hn2, fun q hq => (by cases hq), Nat.le_refl _, Nat.le_refl _, fun q hq => (by cases hq)⟩, ?_, by omega, by omega⟩
  · have := Blk.new (w.alloc (.map #[] 0)) 45 #[.int .i64 n, .map (some w.heap.size)]
    rw [World.size_alloc] at this
    exact this
  · exact ((Below.refl _ w).alloc (Nat.le_refl _) _).alloc (by simp) _
set_option maxHeartbeats 4000000 in
theorem add_any (h : Rgs w r M n E L c) (hc : c ≤ 30000) (k : ByteArray) (hk : k.size ≤ 40) (id : Int) (ok : Bool) (L' : LN) (ha : addO k id L = (ok, L')) : Calls Try.prog 25 #[.pointer (some ⟨r, 0, none⟩), .string k, .int .i64 id] w fun e w' => e = .returned (.bool ok) ∧ Went w w' r M n E L' (c + 2) := by
  have HH := Lib.hid h
  have HA := Lib.hid ha
  clear ha
  by_cases h0 : id < 0
  · obtain ⟨rfl, rfl⟩ : ok = false ∧ L' = L := by have := HA.out; unfold addO at this; rw [if_pos (.inl h0)] at this; cases this; exact ⟨rfl, rfl⟩
    clear h
    go_enter Try.func25, Try.ntmps25
    go_wp2
    go_ret
    exact ⟨rfl, Went.same HH.out.up.up 0⟩
  · obtain ⟨u, hu⟩ : ∃ u, getL k L = u := ⟨_, rfl⟩
    have HU := Lib.hid hu
    cases u with
    | some v =>
      obtain ⟨rfl, rfl⟩ : ok = false ∧ L' = L := by have := HA.out; unfold addO at this; rw [if_pos (.inr (by rw [hu]; rfl))] at this; cases this; exact ⟨rfl, rfl⟩
      have hv0 : 0 ≤ v := h.pos _ (getL_mem hu)
      have HF := Lib.hid (find_any h k (by omega) v (by unfold findO; rw [hu]; rfl))
      clear h hu
      go_enter Try.func25, Try.ntmps25
      go_wp2_with fail
      refine HF.out.mono ?_
      rintro _ w1 ⟨rfl, rfl⟩
      go_wp2
      go_ret
      exact ⟨rfl, Went.same HH.out.up.up 1⟩
    | none =>
      obtain ⟨rfl, rfl⟩ : ok = true ∧ L' = insL k id L := by have := HA.out; unfold addO at this; rw [if_neg (by rw [hu]; simp; omega)] at this; cases this; exact ⟨rfl, rfl⟩
      have HF := Lib.hid (find_any h k (by omega) (-1) (by unfold findO; rw [hu]; rfl))
      have h1 := h.drewN 1
      have H1 := Lib.hid h1
      have HSH := Lib.hid (shard_m h1 k (by omega))
      have hwf := shd_wf h k
      obtain ⟨o, ho⟩ : ∃ o, lkS (shd n k) E = o := ⟨_, rfl⟩
      have hlk := look_of h1 hwf ho
      obtain ⟨s, hs⟩ : ∃ s, shd n k = s := ⟨_, rfl⟩
      have c1 : (w.drewN 1).cell? ⟨r, 1, none⟩ = some (.map (some M)) := h.box.cell 1
      have c1b : w.cell? ⟨r, 1, none⟩ = some (.map (some M)) := c1
      rw [hs] at HSH hlk ho hwf
      have HO := Lib.hid ho
      have HS := Lib.hid hs
      have HWF := Lib.hid hwf
      clear h hu h1 ho hs hwf
      cases o with
      | some g =>
        obtain ⟨hlk1, hlk2⟩ := hlk
        simp only [Option.map_some, Option.getD_some, Option.isSome_some, ptr] at hlk1 hlk2
        have HOM := Lib.hid (H1.out.oms _ (lk_mem HO.out))
        have HPT := Lib.hid (ON.om_put HOM.out (by have := HH.out.ll; have := List.length_filter_le (inS n s) L; simp only; omega) k id false (by rw [show getL k (L.filter (inS n (s, g).1)) = getL k L from (by have := (H1.out.get k).2 g (by rw [HS.out]; exact HO.out); rw [HS.out] at this; exact this.2), HU.out]; rfl))
        go_enter Try.func25, Try.ntmps25
        go_wp2_with fail
        refine HF.out.mono ?_
        rintro _ w1 ⟨rfl, rfl⟩
        go_wp2_with fail
        refine HSH.out.mono ?_
        rintro _ wz ⟨rfl, hw0⟩
        replace hw0 := hw0.symm
        subst hw0
        go_wp2_with fail
        refine HPT.out.mono ?_
        rintro _ w2 ⟨rfl, h2, h3⟩
        have HR := Lib.hid (H1.out.put (v := id) (by omega) hk (by rw [HS.out]; exact lk_mem HO.out) (by rw [HS.out]; exact h2) h3)
        clear h2 h3
        go_wp2
        go_ret
        obtain ⟨q1, q2, q3⟩ := HR.out
        exact ⟨rfl, E, q1.up, ⟨q2.os, q2.tape, q2.output, q2.size, q2.block⟩, fun p hp => .inl hp, q3⟩
      | none =>
        obtain ⟨hlk1, _⟩ := hlk
        simp only [Option.map_none, Option.getD_none, Option.isSome_none] at hlk1
        have c1d : (w.drewN 1).drew.cell? ⟨r, 1, none⟩ = some (.map (some M)) := c1b
        have c1e : (w.drewN (1 + 1)).cell? ⟨r, 1, none⟩ = some (.map (some M)) := c1b
        go_enter Try.func25, Try.ntmps25
        go_wp2_with fail
        refine HF.out.mono ?_
        rintro _ w1 ⟨rfl, rfl⟩
        go_wp2_with fail
        refine HSH.out.mono ?_
        rintro _ wz ⟨rfl, hw0⟩
        replace hw0 := hw0.symm
        subst hw0
        go_wp2_with fail
        go_region_held3 (fun w' => w'.cell? ⟨r, 1, none⟩ = some (.map (some M))) (first | exact c1d | exact c1e | exact e1 | exact e2) (first
          | (go_at_call 35
             refine (ON.om_new _).mono ?_
             rintro _ w2 ⟨g, rfl, h1, hb, hg⟩
             have HB2 := Lib.hid (show Below w.heap.size w w2 from (below_drewN (below_drewN (Below.refl w.heap.size w) 1) 1).trans hb)
             have hR2 := HH.out.below HB2.out
             obtain ⟨D, m1, m2, m3⟩ := hR2.map
             obtain ⟨w3, hrun, n1, n2, n3⟩ := m1.upd (by have := hR2.el; omega) Try.underlying43 HWF.out (ptr g)
             have e1 : w2.cell? ⟨r, 1, none⟩ = some (.map (some M)) := hR2.box.cell 1
             have HRO := Lib.hid (HH.out.open' (s := s) HO.out h1 HB2.out hg n1 (fun D2 hD2 => by rw [vm_one m1 hD2]) n2)
             have e2 : w3.cell? ⟨r, 1, none⟩ = some (.map (some M)) := HRO.out.1.box.cell 1
             simp only [ptr] at hrun
             have HG := Lib.hid hg
             clear h1 hb hg hR2 m1 m2 m3 n1 n2 n3)
          | fail)
        all_goals (
          have hlk2 := (look_of HRO.out.1 HWF.out (o := some g) (by unfold lkS; rw [if_pos rfl])).2
          simp only [Option.map_some, Option.getD_some, ptr] at hlk2
          have c3 : w3.cell? ⟨r, 1, none⟩ = some (.map (some M)) := HRO.out.1.box.cell 1
          have HPT := Lib.hid (ON.om_put (HRO.out.1.oms (s, g) List.mem_cons_self) (by have := HH.out.ll; have := List.length_filter_le (inS n s) L; simp only; omega) k id false (by rw [show getL k (L.filter (inS n (s, g).1)) = getL k L from (by have := (HRO.out.1.get k).2 g (by rw [HS.out]; unfold lkS; rw [if_pos rfl]); rw [HS.out] at this; exact this.2), HU.out]; rfl))
          clear hrun e1 e2 c1 c1b c1d c1e hlk1
          go_wp2_with fail
          refine HPT.out.mono ?_
          rintro _ w4 ⟨rfl, h2, h3⟩
          have HR := Lib.hid (HRO.out.1.put (v := id) (by omega) hk (by rw [HS.out]; exact List.mem_cons_self) (by rw [HS.out]; exact h2) h3)
          clear h2 h3
          go_wp2
          go_ret
          obtain ⟨q1, q2, q3⟩ := HR.out
          obtain ⟨p1, p2, p3⟩ := HRO.out
          refine ⟨rfl, (s, g) :: E, q1, p2.trans q2 (fun j hj => ?_), fun p hp => ?_, p3.trans q3⟩
          · rcases List.mem_cons.1 hj with rfl | hj
            · exact .inl List.mem_cons_self
            · rw [List.map_cons] at hj
              rcases List.mem_cons.1 hj with rfl | hj
              · exact .inr HG.out
              · exact .inl (List.mem_cons_of_mem _ hj)
          · rcases List.mem_cons.1 hp with rfl | hp
            · exact .inr HG.out
            · exact .inl hp)
set_option maxHeartbeats 4000000 in
theorem rem_any (h : Rgs w r M n E L c) (hc : c ≤ 30000) (k : ByteArray) (hk : k.size ≤ 40) (id : Int) (ok : Bool) (L' : LN) (ha : remO k id L = (ok, L')) : Calls Try.prog 26 #[.pointer (some ⟨r, 0, none⟩), .string k, .int .i64 id] w fun e w' => e = .returned (.bool ok) ∧ Went w w' r M n E L' (c + 2) := by
  have HH := Lib.hid h
  have HA := Lib.hid ha
  clear ha
  by_cases h0 : id < 0
  · obtain ⟨rfl, rfl⟩ : ok = false ∧ L' = L := by have := HA.out; unfold remO at this; rw [if_pos (.inl h0)] at this; cases this; exact ⟨rfl, rfl⟩
    clear h
    go_enter Try.func26, Try.ntmps26
    go_wp2
    go_ret
    exact ⟨rfl, Went.same HH.out.up.up 0⟩
  · obtain ⟨v, hv⟩ : ∃ v, findO k L = v := ⟨_, rfl⟩
    have HF := Lib.hid (find_any h k (by omega) v hv)
    by_cases hne : v = id
    · subst hne
      obtain ⟨rfl, rfl⟩ : ok = true ∧ L' = delL k L := by have := HA.out; unfold remO at this; rw [if_neg (by rw [hv]; simp; omega)] at this; cases this; exact ⟨rfl, rfl⟩
      have hu : getL k L = some v := by
        unfold findO at hv
        cases hc : getL k L with
        | none => rw [hc] at hv; simp at hv; omega
        | some x => rw [hc] at hv; simp at hv; rw [hv]
      have HU := Lib.hid hu
      have h1 := h.drewN 1
      have h2 := h.drewN 2
      have H1 := Lib.hid h1
      have H2 := Lib.hid h2
      have HSH := Lib.hid (fun W (h : Rgs W r M n E L c) => shard_m h k (by omega))
      have hwf := shd_wf h k
      obtain ⟨o, ho⟩ : ∃ o, lkS (shd n k) E = o := ⟨_, rfl⟩
      have hlk := (look_of (h1.drew) hwf ho).2
      have hlkb := (look_of h2 hwf ho).2
      obtain ⟨s, hs⟩ : ∃ s, shd n k = s := ⟨_, rfl⟩
      have c1d : (w.drewN 1).drew.cell? ⟨r, 1, none⟩ = some (.map (some M)) := h.box.cell 1
      have c1e : (w.drewN (1 + 1)).cell? ⟨r, 1, none⟩ = some (.map (some M)) := h.box.cell 1
      rw [hs] at HSH hlk hlkb ho hwf
      have HO := Lib.hid ho
      have HS := Lib.hid hs
      have HG := Lib.hid (h2.get k)
      clear h hv h1 h2 ho hs hwf hu
      cases o with
      | none =>
        exfalso
        have := HG.out.1 (by rw [HS.out]; exact HO.out)
        rw [HU.out] at this
        cases this
      | some g =>
        simp only [Option.map_some, Option.getD_some, ptr] at hlk hlkb
        obtain ⟨g1, g2⟩ := HG.out.2 g (by rw [HS.out]; exact HO.out)
        rw [HS.out] at g1 g2
        have HDL := Lib.hid (fun W (hW : ON.Om W g (L.filter (inS n s))) => ON.om_del hW (by have := HH.out.ll; have := List.length_filter_le (inS n s) L; omega) k true (by rw [g2, HU.out]; rfl))
        have HG1 := Lib.hid g1
        clear g1 g2
        go_enter Try.func26, Try.ntmps26
        go_wp2_with fail
        refine HF.out.mono ?_
        rintro _ w1 ⟨rfl, rfl⟩
        go_wp2_with fail
        go_region_held3 (fun w' => w'.cell? ⟨r, 1, none⟩ = some (.map (some M)) ∧ ((Instr.lookup 43 (.map (some M)) (.int .i64 s) false).run Try.prog w' = .ok (.pointer (some ⟨g, 0, none⟩)) w')) (first | exact ⟨c1d, hlk⟩ | exact ⟨c1e, hlkb⟩ | exact ⟨e1, e2⟩) (first
          | (go_at_call 28
             (refine (HSH.out _ ?_).mono ?_)
             · exact H2.out
             rintro _ wz ⟨rfl, hw0⟩
             replace hw0 := hw0.symm
             subst hw0)
          | (go_at_call 37
             (refine (HDL.out _ ?_).mono ?_)
             · exact HG1.out
             rintro _ w2 ⟨rfl, h2, h3⟩
             have HR := Lib.hid (H2.out.del (k := k) (by rw [HS.out]; exact lk_mem HO.out) (by rw [HS.out]; exact h2) h3)
             have e1 : w2.cell? ⟨r, 1, none⟩ = some (.map (some M)) := HR.out.1.box.cell 1
             have e2 := (look_of HR.out.1 (HS.out ▸ shd_wf HH.out k) HO.out).2
             simp only [Option.map_some, Option.getD_some, ptr] at e2
             clear h2 h3)
          | fail)
        all_goals (
          go_wp2
          go_ret
          obtain ⟨q1, q2, q3⟩ := HR.out
          exact ⟨rfl, E, q1.up.up, ⟨q2.os, q2.tape, q2.output, q2.size, q2.block⟩, fun p hp => .inl hp, q3⟩)
    · obtain ⟨rfl, rfl⟩ : ok = false ∧ L' = L := by have := HA.out; unfold remO at this; rw [if_pos (.inr (by rw [hv]; exact hne))] at this; cases this; exact ⟨rfl, rfl⟩
      have hneb : (v == id) = false := by simpa using hne
      have hneb2 : (v != id) = true := by simpa using hne
      clear h hv
      go_enter Try.func26, Try.ntmps26
      go_wp2_with fail
      refine HF.out.mono ?_
      rintro _ w1 ⟨rfl, rfl⟩
      go_wp2
      go_ret
      exact ⟨rfl, Went.same HH.out.up.up 1⟩
end
end Go.Proofs.Ytlfjhbfhnlclpaa
