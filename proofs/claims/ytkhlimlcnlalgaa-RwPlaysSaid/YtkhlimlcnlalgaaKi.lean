/- The lock: Ask. -/
import Derived.Test.YtkhlimlcnlalgaaKh
namespace Go.Proofs.Ytkhlimlcnlalgaa
open Go.RowKit Go.Maps
set_option linter.unusedVariables false
set_option linter.unusedSimpArgs false
set_option maxRecDepth 100000
theorem qhas_iff {x : Int} {Q : List Pq} : qhas x Q = true ↔ x ∈ keysOf Q := by
  unfold qhas keysOf
  rw [List.any_eq_true, List.mem_map]
  constructor
  · rintro ⟨p, hp, h⟩
    exact ⟨p, hp, by simpa using h⟩
  · rintro ⟨p, hp, h⟩
    exact ⟨p, hp, by simpa using h⟩
theorem lkh_iff {x : Int} {H : List Pq} : (lkh x H).isSome = true ↔ x ∈ keysOf H := by
  unfold keysOf
  constructor
  · intro h
    obtain ⟨v, hv⟩ := Option.isSome_iff_exists.1 h
    exact List.mem_map.2 ⟨_, lkh_mem hv, rfl⟩
  · intro h
    obtain ⟨p, hp, e⟩ := List.mem_map.1 h
    exact lkh_some_of ⟨p, hp, e⟩
section
variable {w w' w2 W : World} {R b B n : Nat} {V V' V2 : Value} {D D' D2 : VD} {Q Q' H H' : List Pq}
theorem Lb.lkv (h : Lb w R b B n V D Q H) {x v : Int} (hx : lkh x H = some v) : v = 2 ∨ v = 3 := (h.wfs (x, v) (List.mem_append_left _ (lkh_mem hx))).2
theorem stL_zero (h : Lb w R b B n V D Q H) {x : Int} (hs : stL Q H x = 0) : x ∉ keysOf H ∧ x ∉ keysOf Q := by
  unfold stL at hs
  cases hl : lkh x H with
  | some v =>
    rw [hl] at hs
    have := h.lkv hl
    simp only at hs
    omega
  | none =>
    rw [hl] at hs
    refine ⟨fun hm => ?_, fun hm => ?_⟩
    · have := lkh_iff.2 hm
      rw [hl] at this
      cases this
    · have := qhas_iff.2 hm
      rw [this] at hs
      simp at hs
theorem Kl.set (hb : Lb w R b B n V D Q H) (v : Value) : Kl w (w.setCell ⟨R, 0, none⟩ v) R b V V :=
  ⟨rfl, rfl, rfl, by simp [World.setCell], fun j hj hm => Below.heap_setCell w ⟨R, 0, none⟩ _ j (fun e => hm (.inl e)), fun _ h => .inl h⟩
/-- One asks: the lock with one more in its queue. -/
theorem push_done {x will : Int} (h : Lb w R b B n V D Q H) (hs : stL Q H x = 0) (hx : wf x) (hw : will = 2 ∨ will = 3) (hbx : Blk W R 44 #[V2, .map (some b), .bool (wrB H)]) (hm : W.heap[b]? = w.heap[b]?) (hq : Qr W B V2 (Q ++ [(x, will)])) (hown : ∀ k, V2.ownBlock = some k → V.ownBlock = some k ∨ w.heap.size ≤ k) :
    Lb W R b B (n + 1) V2 D (Q ++ [(x, will)]) H := by
  obtain ⟨h1, h2⟩ := stL_zero h hs
  have hR := h.lt (.inl rfl : Mine R b V R)
  have hb := h.lt (.inr (.inl rfl) : Mine R b V b)
  refine ⟨hbx, h.m.off hm, h.d, h.sz, hq, ⟨h.ne.1, fun e => ?_, fun e => ?_⟩, ?_, fun p hp => ?_, h.alone, ?_, h.ge⟩
  · rcases hown R e with e2 | e2
    · exact h.ne.2.1 e2
    · omega
  · rcases hown b e with e2 | e2
    · exact h.ne.2.2 e2
    · omega
  · have e : keysOf H ++ keysOf (Q ++ [(x, will)]) = (keysOf H ++ keysOf Q) ++ [x] := by unfold keysOf; simp
    rw [e, List.nodup_append]
    refine ⟨h.one, by simp, fun a ha c hc => ?_⟩
    rw [List.mem_singleton] at hc
    subst hc
    rintro rfl
    rcases List.mem_append.1 ha with ha | ha
    · exact h1 ha
    · exact h2 ha
  · rw [← List.append_assoc] at hp
    rcases List.mem_append.1 hp with hp | hp
    · exact h.wfs p hp
    · rw [List.mem_singleton.1 hp]; exact ⟨hx, hw⟩
  · have := h.len
    simp only [List.length_append, List.length_cons, List.length_nil]
    omega
theorem ask_no (h : Lb w R b B n V D Q H) (hn : n ≤ 1000) (x : Int) (hx : wf x) (wr : Bool) (hs : stL Q H x ≠ 0) : Calls Try.prog 9 #[.pointer (some ⟨R, 0, none⟩), .int .i64 x, .bool wr] w fun e w' => e = .returned (.bool false) ∧ Below w.heap.size w w' := by
  have HS := Lib.hid (state_any h hn x hx)
  obtain ⟨s, hsE⟩ : ∃ s, stL Q H x = s := ⟨_, rfl⟩
  rw [hsE] at HS hs
  have hb : (s == 0) = false := by simpa using hs
  have hb2 : (s != 0) = true := by simpa using hs
  clear h hsE hs
  go_enter Try.func9, Try.ntmps9
  go_wp2_with (first | (go_at_call 14; (with_reducible refine (HS.out).mono ?_); rintro _ w5 ⟨rfl, h1⟩; have HB := Lib.hid h1; clear h1) | fail)
  go_ret
  exact ⟨rfl, HB.out⟩
def willOf (wr : Bool) : Int := if wr then 3 else 2
set_option maxHeartbeats 4000000 in
theorem ask_yes (h : Lb w R b B n V D Q H) (hn : n < 1000) (x : Int) (hx : wf x) (wr : Bool) (hs : stL Q H x = 0) : Calls Try.prog 9 #[.pointer (some ⟨R, 0, none⟩), .int .i64 x, .bool wr] w fun e w' => ∃ V' D', e = .returned (.bool (stL (mvQ (Q ++ [(x, willOf wr)]) H) (mvH (Q ++ [(x, willOf wr)]) H) x != 1)) ∧ Lb w' R b B (n + 1) V' D' (mvQ (Q ++ [(x, willOf wr)]) H) (mvH (Q ++ [(x, willOf wr)]) H) ∧ Kl w w' R b V V' := by
  obtain ⟨i0, hi, hz0, hz1, hz2⟩ := info_parts info46
  have HH := Lib.hid h
  have HX := Lib.hid hx
  have HST := Lib.hid hs
  have HS := Lib.hid (state_any h (by omega) x hx)
  rw [hs] at HS
  have hql : Q.length ≤ 1000 := by have := h.len; omega
  obtain ⟨will, hwill⟩ : ∃ v, willOf wr = v := ⟨_, rfl⟩
  have HWW := Lib.hid (show will = 2 ∨ will = 3 from by rw [← hwill]; unfold willOf; cases wr <;> simp)
  have HWE := Lib.hid hwill
  have hRl := h.lt (.inl rfl : Mine R b V R)
  have hbl := h.lt (.inr (.inl rfl) : Mine R b V b)
  have hBs : B ≤ w.heap.size := by have := h.ge.1; omega
  rw [hwill]
  clear h hx hs
  have hsl := HH.out.q.sl
  obtain ⟨A, cap, hV, _⟩ := hsl
  have HVE := Lib.hid hV
  go_enter Try.func9, Try.ntmps9
  cases wr with
  | false =>
    simp only [willOf, if_true, Bool.false_eq_true, if_false] at hwill
    subst hwill
    go_wp2_with fail
    refine (HS.out).mono ?_
    rintro _ w1 ⟨rfl, h1⟩
    have HB1 := Lib.hid h1
    have L1 := Lib.hid (HH.out.kept h1)
    have hs1 : w.heap.size ≤ w1.heap.size := h1.size
    have c0 := L1.out.box.cell 0
    rw [HVE.out] at c0
    clear h1
    go_wp2_with (first
      | (at_builtin
         refine wpList_qpush rfl (.tmp 17) (.tmp 21) rfl (V := .slice A Q.length cap) (Q := Q) (B := B) (Qr.below (HVE.out ▸ L1.out.q) ((Below.refl _ _).alloc (Nat.le_refl _) _)) (by simp; omega) (by omega) rfl ⟨w1.heap.size, 0, none⟩ 1 (x, 2) rfl (World.news_of_block (cs := #[.int .i64 x, .int .i64 2]) (t := 46) (fr := (0, 0)) (Blk.new w1 46 _)) hi hz0 hz1 hz2 ?_
         intro V2 w2 hq hg ho
         obtain ⟨A2, c2, hV2, _⟩ := hq.sl
         rw [show (Q ++ [(x, (2 : Int))]).length = Q.length + 1 from by rw [List.length_append]; rfl] at hV2
         subst hV2
         have hb2 : Blk w2 R 44 #[.slice A Q.length cap, .map (some b), .bool (wrB H)] := (hg.block R (by simp; omega) (fun e => HH.out.ne.2.1 (by rw [HVE.out, ← e]))).trans ((Below.heap_alloc w1 _ R (by omega)).trans (HVE.out ▸ L1.out.box))
         have hbb : w2.heap[b]? = w1.heap[b]? := (hg.block b (by simp; omega) (fun e => HH.out.ne.2.2 (by rw [HVE.out, ← e]))).trans (Below.heap_alloc w1 _ b (by omega))
         have f2 := hb2.frozen 0
         have r2 := hb2.cell 0
         have HQ2 := Lib.hid hq
         have HG2 := Lib.hid hg
         have HO2 := Lib.hid ho
         have HB2 := Lib.hid hb2
         have HBB := Lib.hid hbb
         clear hq hg ho hb2 hbb)
      | fail)
    have hz2s : w1.heap.size ≤ w2.heap.size := by have := HG2.out.size; simp at this; omega
    have hown : ∀ k, (Value.slice A2 (Q.length + 1) c2).ownBlock = some k → V.ownBlock = some k ∨ w.heap.size ≤ k := fun k hk => by
      rcases HO2.out k hk with h | h
      · exact .inl (by rw [HVE.out]; exact h)
      · right; simp at h; omega
    have hset : ∀ j, j ≠ R → (w2.setCell ⟨R, 0, none⟩ (.slice A2 (Q.length + 1) c2)).heap[j]? = w2.heap[j]? := fun j hj => Below.heap_setCell w2 ⟨R, 0, none⟩ _ j hj
    have L3 := Lib.hid (push_done (W := w2.setCell ⟨R, 0, none⟩ (.slice A2 (Q.length + 1) c2)) HH.out HST.out HX.out (by decide) (HB2.out.set_ 0 _) ((hset b (fun e => HH.out.ne.1 e.symm)).trans (HBB.out.trans (HB1.out.block b hbl))) (HQ2.out.keep (fun j hj => hset j (fun e => by
      rcases hown j hj with h | h
      · exact HH.out.ne.2.1 (e ▸ h)
      · omega))) hown)
    have HK3 := Lib.hid (show Kl w (w2.setCell ⟨R, 0, none⟩ (.slice A2 (Q.length + 1) c2)) R b V (.slice A2 (Q.length + 1) c2) from
      ⟨HG2.out.os.trans HB1.out.os, HG2.out.tape.trans HB1.out.tape, HG2.out.output.trans HB1.out.output, by simp [World.setCell]; omega, fun j hj hm => (hset j (fun e => hm (.inl e))).trans ((HG2.out.block j (by simp; omega) (fun e => hm (.inr (.inr (by rw [HVE.out, ← e]))))).trans ((Below.heap_alloc w1 _ j (by omega)).trans (HB1.out.block j hj))), hown⟩)
    clear hset
    go_wp2_with fail
    refine (move_any L3.out (by omega)).mono ?_
    rintro _ w4 ⟨U4, V4, D4, rfl, h1, h2, h3⟩
    have L4 := Lib.hid h1
    have HK4 := Lib.hid (HK3.out.trans h3 hRl hbl)
    clear h1 h2 h3
    go_wp2_with fail
    refine (state_any L4.out (by omega) x HX.out).mono ?_
    rintro _ w5 ⟨rfl, h1⟩
    have L5 := Lib.hid (L4.out.kept h1)
    have HK5 := Lib.hid (HK4.out.trans (Kl.of h1) hRl hbl)
    clear h1
    go_wp2
    go_ret
    exact ⟨V4, D4, rfl, L5.out, HK5.out⟩
  | true =>
    simp only [willOf, if_true, Bool.false_eq_true, if_false] at hwill
    subst hwill
    go_wp2_with fail
    refine (HS.out).mono ?_
    rintro _ w1 ⟨rfl, h1⟩
    have HB1 := Lib.hid h1
    have L1 := Lib.hid (HH.out.kept h1)
    have hs1 : w.heap.size ≤ w1.heap.size := h1.size
    have c0 := L1.out.box.cell 0
    rw [HVE.out] at c0
    clear h1
    go_wp2_with (first
      | (at_builtin
         refine wpList_qpush rfl (.tmp 17) (.tmp 21) rfl (V := .slice A Q.length cap) (Q := Q) (B := B) (Qr.below (HVE.out ▸ L1.out.q) ((Below.refl _ _).alloc (Nat.le_refl _) _)) (by simp; omega) (by omega) rfl ⟨w1.heap.size, 0, none⟩ 1 (x, 3) rfl (World.news_of_block (cs := #[.int .i64 x, .int .i64 3]) (t := 46) (fr := (0, 0)) (Blk.new w1 46 _)) hi hz0 hz1 hz2 ?_
         intro V2 w2 hq hg ho
         obtain ⟨A2, c2, hV2, _⟩ := hq.sl
         rw [show (Q ++ [(x, (3 : Int))]).length = Q.length + 1 from by rw [List.length_append]; rfl] at hV2
         subst hV2
         have hb2 : Blk w2 R 44 #[.slice A Q.length cap, .map (some b), .bool (wrB H)] := (hg.block R (by simp; omega) (fun e => HH.out.ne.2.1 (by rw [HVE.out, ← e]))).trans ((Below.heap_alloc w1 _ R (by omega)).trans (HVE.out ▸ L1.out.box))
         have hbb : w2.heap[b]? = w1.heap[b]? := (hg.block b (by simp; omega) (fun e => HH.out.ne.2.2 (by rw [HVE.out, ← e]))).trans (Below.heap_alloc w1 _ b (by omega))
         have f2 := hb2.frozen 0
         have r2 := hb2.cell 0
         have HQ2 := Lib.hid hq
         have HG2 := Lib.hid hg
         have HO2 := Lib.hid ho
         have HB2 := Lib.hid hb2
         have HBB := Lib.hid hbb
         clear hq hg ho hb2 hbb)
      | fail)
    have hz2s : w1.heap.size ≤ w2.heap.size := by have := HG2.out.size; simp at this; omega
    have hown : ∀ k, (Value.slice A2 (Q.length + 1) c2).ownBlock = some k → V.ownBlock = some k ∨ w.heap.size ≤ k := fun k hk => by
      rcases HO2.out k hk with h | h
      · exact .inl (by rw [HVE.out]; exact h)
      · right; simp at h; omega
    have hset : ∀ j, j ≠ R → (w2.setCell ⟨R, 0, none⟩ (.slice A2 (Q.length + 1) c2)).heap[j]? = w2.heap[j]? := fun j hj => Below.heap_setCell w2 ⟨R, 0, none⟩ _ j hj
    have L3 := Lib.hid (push_done (W := w2.setCell ⟨R, 0, none⟩ (.slice A2 (Q.length + 1) c2)) HH.out HST.out HX.out (by decide) (HB2.out.set_ 0 _) ((hset b (fun e => HH.out.ne.1 e.symm)).trans (HBB.out.trans (HB1.out.block b hbl))) (HQ2.out.keep (fun j hj => hset j (fun e => by
      rcases hown j hj with h | h
      · exact HH.out.ne.2.1 (e ▸ h)
      · omega))) hown)
    have HK3 := Lib.hid (show Kl w (w2.setCell ⟨R, 0, none⟩ (.slice A2 (Q.length + 1) c2)) R b V (.slice A2 (Q.length + 1) c2) from
      ⟨HG2.out.os.trans HB1.out.os, HG2.out.tape.trans HB1.out.tape, HG2.out.output.trans HB1.out.output, by simp [World.setCell]; omega, fun j hj hm => (hset j (fun e => hm (.inl e))).trans ((HG2.out.block j (by simp; omega) (fun e => hm (.inr (.inr (by rw [HVE.out, ← e]))))).trans ((Below.heap_alloc w1 _ j (by omega)).trans (HB1.out.block j hj))), hown⟩)
    clear hset
    go_wp2_with fail
    refine (move_any L3.out (by omega)).mono ?_
    rintro _ w4 ⟨U4, V4, D4, rfl, h1, h2, h3⟩
    have L4 := Lib.hid h1
    have HK4 := Lib.hid (HK3.out.trans h3 hRl hbl)
    clear h1 h2 h3
    go_wp2_with fail
    refine (state_any L4.out (by omega) x HX.out).mono ?_
    rintro _ w5 ⟨rfl, h1⟩
    have L5 := Lib.hid (L4.out.kept h1)
    have HK5 := Lib.hid (HK4.out.trans (Kl.of h1) hRl hbl)
    clear h1
    go_wp2
    go_ret
    exact ⟨V4, D4, rfl, L5.out, HK5.out⟩
end
end Go.Proofs.Ytkhlimlcnlalgaa
