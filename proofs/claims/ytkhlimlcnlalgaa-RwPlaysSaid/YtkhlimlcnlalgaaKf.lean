/- The lock: who comes in. -/
import Derived.Test.YtkhlimlcnlalgaaKe
namespace Go.Proofs.Ytkhlimlcnlalgaa
open Go.RowKit Go.Maps
set_option linter.unusedVariables false
set_option linter.unusedSimpArgs false
set_option maxRecDepth 100000
/-- The queue moves: who comes in, who waits still, who holds it. -/
def mvC : List Pq → List Pq → List Int
  | [], H => []
  | p :: Q, H => if mayB H p.2 = true then p.1 :: mvC Q (H ++ [p]) else []
def mvQ : List Pq → List Pq → List Pq
  | [], H => []
  | p :: Q, H => if mayB H p.2 = true then mvQ Q (H ++ [p]) else p :: Q
def mvH : List Pq → List Pq → List Pq
  | [], H => H
  | p :: Q, H => if mayB H p.2 = true then mvH Q (H ++ [p]) else H
theorem mvC_le : ∀ (Q H : List Pq), (mvC Q H).length ≤ Q.length
  | [], H => Nat.le_refl _
  | p :: Q, H => by
    unfold mvC
    split
    · have := mvC_le Q (H ++ [p])
      simp only [List.length_cons]
      omega
    · exact Nat.zero_le _
/-- The length that lies in the lock's first cell. -/
def qLen (w : World) (R : Nat) : Nat := match w.cell? ⟨R, 0, none⟩ with
  | some (.slice _ n _) => n
  | _ => 0
def offN (off cap : Nat) : Nat := if cap = 1 then off else off + 2
theorem cut_one (g off n cap : Nat) (hn : 1 ≤ n) (W : World) : (Instr.sliceAt 42 (.slice (some ⟨g, off, none⟩) n cap) (some (.int .i64 1)) none none).run Try.prog W = .ok (.slice (some ⟨g, offN off cap, none⟩) (n - 1) (cap - 1)) W := by
  rw [run_sliceAt_slice W 42 _ _ _ _ (by exact Try.underlying42), run_slice_l W 42 _ _ _ (by exact Try.underlying42) _ _ (by omega) (by omega)]
  have e : Try.prog.elem 42 = 46 := by kernel_rfl
  have e2 : (sizeOf 46).run Try.prog W = .ok 2 W := by kernel_rfl
  have e3 : (1 : Int).toNat = 1 := rfl
  rw [e, e2, e3]
  simp only [Result.andThen, sliced, Option.map_some, offN]
  by_cases h : cap = 1
  · rw [if_pos h, if_pos h]
  · rw [if_neg h, if_neg h, add_plain]
section
variable {w w' w2 : World} {R b B n : Nat} {V V' V2 : Value} {D D' : VD} {Q H : List Pq}
theorem Qr.tail {g off cap m : Nat} {p : Pq} (h : Qr w B (.slice (some ⟨g, off, none⟩) m cap) (p :: Q)) : Qr w B (.slice (some ⟨g, offN off cap, none⟩) Q.length (cap - 1)) Q := by
  rcases h with ⟨h, _⟩ | ⟨g', off', cap', cur, e, h1, h2, h3, h4, h5, h6⟩
  · cases h
  · cases e
    refine .inr ⟨g, offN off cap, cap - 1, cur, rfl, h1, h2, by simp at h3; omega, by omega, ?_, fun j r hj => ?_⟩
    · have h3' : 1 ≤ cap := by simp at h3; omega
      unfold offN
      split <;> omega
    · have hl := (List.getElem?_eq_some_iff.1 hj).1
      have := h6 (j + 1) r (by simpa using hj)
      unfold offN
      rw [if_neg (by simp at h3; omega)]
      rw [show off + (j + 1) * 2 = off + 2 + j * 2 by omega] at this
      exact this
theorem mine_slice {g off off2 m m2 cap cap2 : Nat} (j : Nat) : Mine R b (.slice (some ⟨g, off, none⟩) m cap) j ↔ Mine R b (.slice (some ⟨g, off2, none⟩) m2 cap2) j := by unfold Mine; exact Iff.rfl
theorem wrB_append (p : Pq) : wrB (H ++ [p]) = (wrB H || (p.2 == 3)) := by unfold wrB; rw [List.any_append]; simp
theorem in_done {p : Pq} {W : World} {g off cap : Nat} (h : Lb w R b B n V D (p :: Q) H) (hV : V = .slice (some ⟨g, off, none⟩) (p :: Q).length cap) (hm : mayB H p.2 = true) (hsz : w.heap.size ≤ W.heap.size)
    (hbx : Blk W R 44 #[.slice (some ⟨g, offN off cap, none⟩) Q.length (cap - 1), .map (some b), .bool (p.2 == 3)]) (v1 : Vm W b (D.put (.int .i64 p.1) (.held (.int .i64 p.2)))) (hg : W.heap[g]? = w.heap[g]?) :
    Lb W R b B n (.slice (some ⟨g, offN off cap, none⟩) Q.length (cap - 1)) (D.put (.int .i64 p.1) (.held (.int .i64 p.2))) Q (H ++ [p]) := by
  subst hV
  have i1 := h.m.vd
  have hone := h.one
  have hx : lkh p.1 H = none := by
    cases hl : lkh p.1 H with
    | none => rfl
    | some v =>
      have h1 := (List.nodup_append.1 hone).2.2 p.1 (List.mem_map.2 ⟨_, lkh_mem hl, rfl⟩) p.1 (by unfold keysOf; simp)
      exact absurd rfl h1
  have hwr : wrB (H ++ [p]) = (p.2 == 3) := by
    rw [wrB_append]
    unfold mayB at hm
    by_cases e : p.2 = 3
    · simp [e]
    · rw [if_neg e] at hm
      have : wrB H = false := by simpa using hm
      rw [this]; rfl
  refine ⟨hwr ▸ hbx, v1, fun y => ?_, ?_, h.q.tail.keep (fun j hj => by cases hj; exact hg), ⟨h.ne.1, h.ne.2.1, h.ne.2.2⟩, ?_, fun r hr => ?_, fun hw => ?_, ?_, h.ge⟩
  · rw [lkh_append]
    by_cases e : y = p.1
    · subst e
      rw [vl_put i1.tidy.isMap, hx, if_pos rfl]; rfl
    · rw [vl_put_ne e, h.d, if_neg (fun h => e h.symm)]
      cases lkh y H <;> rfl
  · rw [i1.size_put]
    have : (vl D p.1).isSome = false := by rw [h.d, hx]; rfl
    rw [this, h.sz]
    simp
  · have e : keysOf (H ++ [p]) ++ keysOf Q = keysOf H ++ keysOf (p :: Q) := by unfold keysOf; simp
    rw [e]
    exact hone
  · exact h.wfs r (by
      simp only [List.mem_append, List.mem_cons, List.mem_singleton, List.not_mem_nil, or_false] at hr ⊢
      rcases hr with (hr | hr) | hr
      · exact .inl hr
      · exact .inr (.inl hr)
      · exact .inr (.inr hr))
  · rw [hwr] at hw
    have e : p.2 = 3 := by simpa using hw
    unfold mayB at hm
    rw [if_pos e] at hm
    cases H with
    | nil => rfl
    | cons a H => cases hm
  · have := h.len
    simp only [List.length_append, List.length_cons, List.length_nil] at this ⊢
    omega
set_option maxHeartbeats 8000000 in
theorem move_any (h : Lb w R b B n V D Q H) (hn : n ≤ 1000) : Calls Try.prog 21 #[.pointer (some ⟨R, 0, none⟩)] w fun e w' => ∃ U V' D', e = .returned U ∧ Lb w' R b B n V' D' (mvQ Q H) (mvH Q H) ∧ w'.ownsRow w.heap.size 3 1 U (mvC Q H).length (ivs (mvC Q H)) ∧ Kl w w' R b V V' := by
  obtain ⟨i0, hi, hz0, hz1, hz2⟩ := info_parts info3
  have HH := Lib.hid h
  have HK0 := Lib.hid (Kl.refl w R b V)
  have hRl := h.lt (.inl rfl : Mine R b V R)
  have hbl := h.lt (.inr (.inl rfl) : Mine R b V b)
  clear h
  go_enter Try.func21, Try.ntmps21
  go_wp2
  go_loopw [3] (fun u wr => ∃ (V1 : Value) (D1 : VD) (Q1 H1 : List Pq) (c : List Int), Lb wr R b B n V1 D1 Q1 H1 ∧ wr.ownsRow w.heap.size 3 1 u c.length (ivs c) ∧ mvC Q H = c ++ mvC Q1 H1 ∧ mvQ Q H = mvQ Q1 H1 ∧ mvH Q H = mvH Q1 H1 ∧ c.length ≤ n ∧ c.length + Q1.length ≤ n ∧ Kl w wr R b V V1 ∧ (∀ j, V1.ownBlock = some j → V.ownBlock = some j)) (fun _ wr => qLen wr R)
  case atStart => exact ⟨V, D, Q, H, [], HH.out, World.ownsRow_nil _ _ _ _, rfl, rfl, rfl, Nat.zero_le _, by have := HH.out.len; simp; omega, HK0.out, fun _ h => h⟩
  case round =>
    obtain ⟨V1, D1, Q1, H1, c, hl, hr, e1, e2, e3, hcn, hcq, hk, ho⟩ := hrel
    have HO := Lib.hid ho
    have HL := Lib.hid hl
    have HR := Lib.hid hr
    have E1 := Lib.hid e1
    have E2 := Lib.hid e2
    have E3 := Lib.hid e3
    have HK := Lib.hid hk
    have c0 := hl.box.cell 0
    cases Q1 with
    | nil =>
      obtain ⟨A, cap, hV, _⟩ := hl.q.sl
      subst hV
      clear hl hr e1 e2 e3 hk ho
      go_wp2
      go_ret
      refine ⟨_, _, D1, rfl, ?_, ?_, HK.out⟩
      · rw [E2.out, E3.out]; exact HL.out
      · rw [E1.out]
        show World.ownsRow _ _ _ _ _ (c ++ []).length (ivs (c ++ []))
        rw [List.append_nil]
        exact HR.out
    | cons p Q2 =>
      obtain ⟨g, off, cap, hV, hcap, hgl, d1, d2⟩ := hl.q.at (j := 0) (p := p) rfl
      subst hV
      rw [Nat.zero_mul, Nat.add_zero] at d1 d2
      obtain ⟨m, hm⟩ : ∃ m, (p :: Q2).length = m := ⟨_, rfl⟩
      have HM := Lib.hid hm
      have hm1 : 0 < m := by rw [← hm]; simp
      have hmI : (0 : Int) < (m : Int) := by omega
      have hm1000 : (m : Int) ≤ 1000 := by rw [← hm]; omega
      obtain ⟨ok, hok⟩ : ∃ ok, mayB H1 p.2 = ok := ⟨_, rfl⟩
      have HOK := Lib.hid hok
      have HMY := Lib.hid (show Calls Try.prog 28 #[.pointer (some ⟨R, 0, none⟩), .int .i64 p.2] wr fun e w' => e = .returned (.bool ok) ∧ w' = wr from hok ▸ may_any hl p.2)
      rw [hm] at c0
      clear hok hm
      cases ok with
      | false =>
        clear hl hr e1 e2 e3 hk ho
        go_wp2_with (first | (go_at_call 28; (with_reducible refine (HMY.out).mono ?_); rintro _ x1 ⟨rfl, hw⟩; replace hw := hw.symm; subst hw) | fail)
        go_ret
        have f1 : mvC (p :: Q2) H1 = [] := by unfold mvC; rw [if_neg (by rw [HOK.out]; decide)]
        have f2 : mvQ (p :: Q2) H1 = p :: Q2 := by unfold mvQ; rw [if_neg (by rw [HOK.out]; decide)]
        have f3 : mvH (p :: Q2) H1 = H1 := by unfold mvH; rw [if_neg (by rw [HOK.out]; decide)]
        refine ⟨_, _, D1, rfl, ?_, ?_, HK.out⟩
        · rw [E2.out, E3.out, f2, f3]; exact HL.out
        · rw [E1.out, f1, List.append_nil]
          exact HR.out
      | true =>
        have hne := hl.ne
        have hgR : g ≠ R := fun e => hne.2.1 (by rw [← e]; rfl)
        have hgb : g ≠ b := fun e => hne.2.2 (by rw [← e]; rfl)
        have hRs : R < wr.heap.size := hl.box.lt
        have hbs : b < wr.heap.size := hl.m.lt
        obtain ⟨s, hs⟩ : ∃ s, wr.heap.size = s := ⟨_, rfl⟩
        have HS := Lib.hid hs
        have B1 : Blk (wr.alloc (.cells #[.int .i64 p.1, .int .i64 p.2] 46)) R 44 #[.slice (some ⟨g, off, none⟩) m cap, .map (some b), .bool (wrB H1)] := (Below.heap_alloc wr _ R hRs).trans (HM.out ▸ hl.box)
        have S1 : Blk (wr.alloc (.cells #[.int .i64 p.1, .int .i64 p.2] 46)) s 46 #[.int .i64 p.1, .int .i64 p.2] := hs ▸ Blk.new wr 46 _
        have hc2 := cut_one g off m cap hm1
        have r0 := B1.cell 0
        have f0 := B1.frozen 0
        obtain ⟨a2, ha2⟩ : ∃ a2, (wr.alloc (.cells #[.int .i64 p.1, .int .i64 p.2] 46)).setCell ⟨R, 0, none⟩ (.slice (some ⟨g, offN off cap, none⟩) (m - 1) (cap - 1)) = a2 := ⟨_, rfl⟩
        have B2 : Blk a2 R 44 #[.slice (some ⟨g, offN off cap, none⟩) (m - 1) (cap - 1), .map (some b), .bool (wrB H1)] := ha2 ▸ B1.set_ 0 _
        have hz2' : a2.heap.size = s + 1 := by rw [← ha2, ← hs]; simp [World.setCell]
        have k2 : ∀ j, j ≠ R → j < s → a2.heap[j]? = wr.heap[j]? := fun j h1 h2 => by rw [← ha2]; exact (Below.heap_setCell _ ⟨R, 0, none⟩ _ j h1).trans (Below.heap_alloc wr _ j (by omega))
        have S2 : Blk a2 s 46 #[.int .i64 p.1, .int .i64 p.2] := by rw [← ha2]; exact (Below.heap_setCell _ ⟨R, 0, none⟩ _ s (fun e => by have e : s = R := e; omega)).trans S1
        have M2 : Vm a2.drew b D1 := hl.m.off (k2 b (by omega) (by omega))
        have hwp := hl.wfs p (by simp)
        obtain ⟨a3, hup, M3, hg3, hz3⟩ := M2.upd (by have := hl.sz; have := hl.len; omega) Try.underlying41 hwp.1 (.int .i64 p.2)
        have B3 : Blk a3 R 44 #[.slice (some ⟨g, offN off cap, none⟩) (m - 1) (cap - 1), .map (some b), .bool (wrB H1)] := (hg3.block R B2.lt (fun e => hne.1 (Option.some.inj e))).trans B2
        have S3 : Blk a3 s 46 #[.int .i64 p.1, .int .i64 p.2] := (hg3.block s S2.lt (fun e => by have := Option.some.inj e; omega)).trans S2
        have hz3' : a3.heap.size = s + 1 := by have : a3.heap.size = a2.heap.size := hz3; omega
        have f3 := B3.frozen 2
        have r3 := B3.cell 2
        obtain ⟨a4, ha4⟩ : ∃ a4, a3.setCell ⟨R, 2, none⟩ (.bool (p.2 == 3)) = a4 := ⟨_, rfl⟩
        have B4 : Blk a4 R 44 #[.slice (some ⟨g, offN off cap, none⟩) (m - 1) (cap - 1), .map (some b), .bool (p.2 == 3)] := ha4 ▸ B3.set_ 2 _
        have S4 : Blk a4 s 46 #[.int .i64 p.1, .int .i64 p.2] := by rw [← ha4]; exact (Below.heap_setCell _ ⟨R, 2, none⟩ _ s (fun e => by have e : s = R := e; omega)).trans S3
        have hz4 : a4.heap.size = s + 1 := by rw [← ha4]; simp [World.setCell]; exact hz3'
        have k4 : ∀ j, j ≠ R → j ≠ b → j < s → a4.heap[j]? = wr.heap[j]? := fun j h1 h2 h3 => by rw [← ha4]; exact (Below.heap_setCell _ ⟨R, 2, none⟩ _ j h1).trans ((hg3.block j (by show j < a2.heap.size; omega) (fun e => h2 (Option.some.inj e))).trans (k2 j h1 h3))
        have M4 : Vm a4 b (D1.put (.int .i64 p.1) (.held (.int .i64 p.2))) := M3.off (by rw [← ha4]; exact Below.heap_setCell _ ⟨R, 2, none⟩ _ b (fun e => hne.1 (show b = R from e).symm))
        have hos : a4.os = wr.os ∧ a4.tape = wr.tape ∧ a4.output = wr.output := by
          rw [← ha4]
          have h1 := hg3.os
          have h2 := hg3.tape
          have h3 := hg3.output
          rw [← ha2] at h1 h2 h3
          exact ⟨h1, h2, h3⟩
        have L4 := Lib.hid (in_done hl rfl HOK.out (by rw [hz4, hs]; omega) (by have := B4; rw [show m - 1 = Q2.length by rw [← HM.out]; simp] at this; exact this) M4 (k4 g hgR hgb (by omega)))
        have HR4 := Lib.hid (row_keep (w2 := a4) HR.out (fun j hj => by
          have h1 := (HR.out.lt j hj).1
          have h2 := (HR.out.lt j hj).2
          exact k4 j (by omega) (by omega) (by omega)))
        have HK4 := Lib.hid (show Kl wr a4 R b (.slice (some ⟨g, off, none⟩) (p :: Q2).length cap) (.slice (some ⟨g, offN off cap, none⟩) Q2.length (cap - 1)) from ⟨hos.1, hos.2.1, hos.2.2, by omega, fun j hj hmj => k4 j (fun e => hmj (.inl e)) (fun e => hmj (.inr (.inl e))) (by omega), fun j hj => .inl hj⟩)
        have HZ4 := Lib.hid hz4
        have HZ43 := Lib.hid (show a4.heap.size = a3.heap.size from by omega)
        have hcl : c.length ≤ 1000 := by omega
        have d20 : a2.drew.cell? ⟨R, 1, none⟩ = some (.map (some b)) := B2.cell 1
        have d21 : a2.drew.cell? ⟨s, 0, none⟩ = some (.int .i64 p.1) := S2.cell 0
        have d22 : a2.drew.cell? ⟨s, 1, none⟩ = some (.int .i64 p.2) := S2.cell 1
        have d30 : a3.cell? ⟨R, 1, none⟩ = some (.map (some b)) := B3.cell 1
        have d31 : a3.cell? ⟨s, 0, none⟩ = some (.int .i64 p.1) := S3.cell 0
        have d32 : a3.cell? ⟨s, 1, none⟩ = some (.int .i64 p.2) := S3.cell 1
        have d41 : a4.cell? ⟨s, 0, none⟩ = some (.int .i64 p.1) := S4.cell 0
        have HA2 := Lib.hid ha2
        have HA4 := Lib.hid ha4
        clear hl hr e1 e2 e3 hk ho B1 S1 B2 S2 M2 B3 S3 B4 S4 M4 hos k2 k4 M3 hg3 hz2' hz3 hz3' hz4 ha2 ha4
        go_wp2_with (first | (go_at_call 28; (with_reducible refine (HMY.out).mono ?_); rintro _ x1 ⟨rfl, hw⟩; replace hw := hw.symm; subst hw) | fail)
        simp only [HS.out, HA2.out]
        clear c0 d1 d2 r0 f0 hc2
        go_region_held3 (fun W => W.cell? ⟨R, 1, none⟩ = some (.map (some b)) ∧ W.cell? ⟨s, 0, none⟩ = some (.int .i64 p.1) ∧ W.cell? ⟨s, 1, none⟩ = some (.int .i64 p.2)) (first | exact ⟨d20, d21, d22⟩ | exact ⟨d30, d31, d32⟩) (fail)
        go_wp2_with (first
          | (at_builtin
             refine wpList_append_lies _ rfl (.tmp 50) (.tmp 53) 34 rfl w.heap.size 3 i0 _ 1 8 Try.underlying34 hi hz0 hz1 hz2 rfl (by decide) u3 c.length (ivs c) rfl (by rw [HA4.out]; exact row_alloc HR4.out _) ⟨a3.heap.size, 0, none⟩ 1 1 [.int .i64 p.1] rfl rfl (World.news_of_block (cs := #[.int .i64 p.1]) (t := 3) (fr := (0, 0)) (by rw [HA4.out, ← HZ43.out]; exact Blk.new a4 3 _)) (by simp [Value.oneCell']) (by decide) (by unfold maxLen; omega) (by omega) (by rw [HA4.out]; have h1 := HK.out.size; have h2 := HZ4.out; have h3 := HS.out; simp; omega) _ rfl ?_
             intro n1 k1 w4 hw hg hat hlt
             rw [HA4.out] at hg
             have HW4 := Lib.hid hw
             have HG4 := Lib.hid hg
             clear hw hg hat hlt)
          | fail)
        have hrow : ∀ j, u3.ownBlock = some j → w.heap.size ≤ j := fun j e => (HR4.out.lt j e).1
        have hmine : ∀ j, Mine R b (.slice (some ⟨g, offN off cap, none⟩) Q2.length (cap - 1)) j → j < w.heap.size := fun j hmj => by
          rcases hmj with h4 | h4 | h4
          · omega
          · omega
          · exact (HH.out.q.lt (HO.out j h4)).2
        have L5 := Lib.hid ((L4.out.kept ((Below.refl _ _).alloc (Nat.le_refl _) (.cells #[.int .i64 p.1] 3))).grown HG4.out (fun j e hmj => by have := hrow j e; have := hmine j hmj; omega))
        have h43 := HZ43.out
        have hs3 := HS.out
        have h44 := HZ4.out
        have hks := HK.out.size
        have HK5 := Lib.hid (show Kl w w4 R b V (.slice (some ⟨g, offN off cap, none⟩) Q2.length (cap - 1)) from
          ⟨HG4.out.os.trans (HK4.out.os.trans HK.out.os), HG4.out.tape.trans (HK4.out.tape.trans HK.out.tape), HG4.out.output.trans (HK4.out.output.trans HK.out.output), by have := HG4.out.size; simp at this; omega, fun j hj hmj => (HG4.out.block j (by simp; omega) (fun e => by have := hrow j e.symm; omega)).trans ((Below.heap_alloc a4 _ j (by omega)).trans ((HK4.out.block j (by omega) (fun hm2 => hmj (by
            rcases hm2 with h4 | h4 | h4
            · exact .inl h4
            · exact .inr (.inl h4)
            · exact .inr (.inr (HO.out j h4))))).trans (HK.out.block j hj hmj))), fun j hj => .inl (HO.out j hj)⟩)
        have g1 : mvC (p :: Q2) H1 = p.1 :: mvC Q2 (H1 ++ [p]) := by conv => lhs; unfold mvC; rw [if_pos HOK.out]
        have g2 : mvQ (p :: Q2) H1 = mvQ Q2 (H1 ++ [p]) := by conv => lhs; unfold mvQ; rw [if_pos HOK.out]
        have g3 : mvH (p :: Q2) H1 = mvH Q2 (H1 ++ [p]) := by conv => lhs; unfold mvH; rw [if_pos HOK.out]
        have hq1 : qLen wr R = m := by unfold qLen; rw [← HM.out, HL.out.box.cell 0]; rfl
        have hq2 : qLen w4 R = m - 1 := by unfold qLen; rw [L5.out.box.cell 0, ← HM.out]; rfl
        have hmm : m = Q2.length + 1 := by rw [← HM.out]; rfl
        go_roundw
        case rel => exact ⟨_, _, Q2, H1 ++ [p], c ++ [p.1], L5.out, by rw [ivs_snoc, List.length_append]; exact HW4.out, by rw [E1.out, g1, List.append_assoc]; rfl, E2.out.trans g2, E3.out.trans g3, by simp at hcq ⊢; omega, by simp at hcq ⊢; omega, HK5.out, HO.out⟩
        case measure => rw [hq1, hq2]; omega
end
end Go.Proofs.Ytkhlimlcnlalgaa
