/- The reference's lock: Ask, Leave. -/
import Derived.Test.YtkhlimlcnlalgaaPg
namespace Go.Proofs.Ytkhlimlcnlalgaa
open Go.RowKit Go.Maps
open Go.Lib
open Go.ChangeShapes Go.ChangeAt
set_option linter.unusedVariables false
set_option linter.unusedSimpArgs false
set_option maxRecDepth 100000
section
variable {w W : World} {g C : Nat} {Vi Vq V : Value} {Q H : List Pq} {n : Nat}
theorem Iv.h2 (h : Iv Q H n) : ∀ p ∈ H, p.2 = 2 ∨ p.2 = 3 := fun p hp => (h.wfs p (List.mem_append_left _ hp)).2
theorem Iv.q2 (h : Iv Q H n) : ∀ p ∈ Q, p.2 = 2 ∨ p.2 = 3 := fun p hp => (h.wfs p (List.mem_append_right _ hp)).2
theorem mv_h2 {Y : List Pq} (h : ∀ p ∈ H, p.2 = 2 ∨ p.2 = 3) (hq : ∀ p ∈ Y, p.2 = 2 ∨ p.2 = 3) : ∀ p ∈ mvH Y H, p.2 = 2 ∨ p.2 = 3 := fun p hp => by
  rcases mvH_sub hp with e | e
  · exact hq p e
  · exact h p e
set_option maxHeartbeats 8000000 in
theorem rask_any (h : Rk w g C Vi Vq Q H) (hC : C ≤ w.heap.size) (hI : Iv Q H n) (hn : n < 1000) (x : Int) (wr : Bool) : Calls Try.prog 10 #[.pointer (some ⟨g, 0, none⟩), .int .i64 x, .bool wr] w fun e w' => ∃ Vi' Vq', e = .returned (.bool (askR Q H x wr)) ∧ Rk w' g C Vi' Vq' (askQ Q H x wr) (askH Q H x wr) ∧ Kr w w' g Vi Vq Vi' Vq' := by
  obtain ⟨i1, hj, hy0, hy1, hy2⟩ := info_parts info48
  have hln := hI.len
  have HH := Lib.hid h
  have HI := Lib.hid hI
  have hgl := h.box.lt
  have HS := Lib.hid (rstate_any h (by omega) hI.h2 x)
  have c1 := h.box.cell 1
  have f1 := h.box.frozen 1
  obtain ⟨Aq, cq, hVq, _⟩ := row2_sl h.q
  subst hVq
  unfold askR askQ askH
  obtain ⟨s, hs⟩ : ∃ s, stL Q H x = s := ⟨_, rfl⟩
  rw [hs] at HS ⊢
  clear h hI hs
  by_cases h0 : s = 0
  · subst h0
    rw [if_pos rfl, if_pos rfl, if_pos rfl]
    go_enter Try.func10, Try.ntmps10
    go_wp2_with fail
    refine (HS.out).mono ?_
    rintro _ wz ⟨rfl, hw0⟩
    replace hw0 := hw0.symm
    subst hw0
    have HRC := Lib.hid (show rcells [(x, willOf wr)] = [.int .i64 x, .bool wr] from by unfold rcells cells2 willOf; cases wr <;> rfl)
    go_wp2_with (first
      | (at_builtin
         refine wpList_append_lies _ rfl (.tmp 15) (.tmp 19) 27 rfl C 48 i1 _ 2 16 Try.underlying27 hj hy0 hy1 hy2 rfl (by decide) (.slice Aq Q.length cq) Q.length (rcells Q) rfl (row2_alloc HH.out.q _) ⟨w.heap.size, 0, none⟩ 1 1 [.int .i64 x, .bool wr] rfl rfl (World.news_of_block (cs := #[.int .i64 x, .bool wr]) (t := 48) (fr := (0, 0)) (Blk.new w 48 #[.int .i64 x, .bool wr])) (by simp [Value.oneCell']) (by decide) (by unfold maxLen; omega) (by omega) (by simp; omega) _ rfl ?_
         intro n1 k1 w3 hw hg hat hlt
         have HD := Lib.hid (q_done (wr := w) (Q' := Q ++ [(x, willOf wr)]) (n := Q.length + 1) HH.out (show KB w.heap.size w _ from ⟨Nat.le_refl _, (Below.refl _ w).alloc (Nat.le_refl _) _⟩) hg (by rw [rcells_append, HRC.out]; exact hw) (by rw [List.length_append]; rfl) (hat.imp id (fun e => Nat.le_of_eq e.symm)))
         have hb3 : Blk w3 g 29 #[Vi, .slice Aq Q.length cq] := pastg (HH.out.box.alloc _) hg (fun e => HH.out.nq e)
         have hf3 := hb3.frozen 1
         have hc3 := hb3.cell 1
         clear hw hg hat hlt hb3)
      | (go_at_call 22
         have HD' := Lib.hid HD.out
         obtain ⟨w4, hw4⟩ : ∃ w4, w3.setCell ⟨g, 1, none⟩ (.slice (some ⟨n1, 0, none⟩) (Q.length + 1) k1) = w4 := ⟨_, rfl⟩
         rw [hw4] at HD' ⊢
         refine (rmove_any HD'.out.1 (by have := HD'.out.2.size; omega) (by rw [List.length_append]; simp only [List.length_cons, List.length_nil]; omega) HI.out.alone).mono ?_
         rintro _ w5 ⟨U, Vi', Vq', rfl, hr, hu, hk⟩
         have HR5 := Lib.hid hr
         have HK5 := Lib.hid (HD'.out.2.trans hk)
         clear hr hu hk hc3 hf3)
      | (go_at_call 15
         refine (rstate_any HR5.out (by rw [mvH_len, List.length_append]; simp only [List.length_cons, List.length_nil]; omega) (mv_h2 HI.out.h2 (fun p hp => by
           rcases List.mem_append.1 hp with e | e
           · exact HI.out.q2 p e
           · rw [List.mem_singleton.1 e]; unfold willOf; cases wr <;> simp)) x).mono ?_
         rintro _ wz ⟨rfl, hw0⟩
         replace hw0 := hw0.symm
         subst hw0)
      | fail)
    go_ret
    rw [← ask_in HI.out x wr]
    exact ⟨_, _, rfl, HR5.out, HK5.out⟩
  · have hsb : (s != 0) = true := by simpa using h0
    rw [if_neg h0, if_neg h0, if_neg h0]
    clear h0
    go_enter Try.func10, Try.ntmps10
    go_wp2_with fail
    refine (HS.out).mono ?_
    rintro _ wz ⟨rfl, hw0⟩
    replace hw0 := hw0.symm
    subst hw0
    go_wp2
    go_ret
    exact ⟨_, _, rfl, HH.out, Kr.refl _ _ _ _⟩
end
end Go.Proofs.Ytkhlimlcnlalgaa
