/- merge: one. -/
import Derived.Test.YtlcchkpjcekinaaGreatDoorZaz
namespace Go.Proofs.YtlcchkpjcekinaaGreatDoor
open Go.RowKit
open Go.Lib hiding intOf
open Go.Sort Go.Proofs
set_option linter.unusedVariables false
set_option linter.unusedSimpArgs false
set_option maxRecDepth 100000
theorem one_out {cs : Array Value} (hc : cs.size = 3) {c : Bool} {R : Ending → World → Prop} {a : Act} {w : World} {g : Nat} (h1 : a.tmps.getD 6 undef = .pointer (some ⟨g, 0, none⟩)) (h2 : a.tmps.getD 7 undef = .bool c) (hd : a.defers = []) (hg : Blk w g 37 cs)
    (hR : R (.returned (.tuple #[.agg cs, .bool c])) w) : bodyPost Tryz.prog Tryz.f21 R .ret a w := by
  refine bodyPost_ret ?_ hd hR
  have hp' : a.tmps[6]?.getD undef = .pointer (some ⟨g, 0, none⟩) := by simpa using h1
  have hp2 : a.tmps[7]?.getD undef = .bool c := by simpa using h2
  have hr : Tryz.f21.results = #[.cell 6 37, .tmp 7] := rfl
  simp [results, hr, hp', hp2, asAddr, run_loadVar_row w g 37 37 cs (0, 0) _ hg Tryz.underlying37 rfl (by rw [hc]; rfl)]
theorem store3 {w W : World} {B : Nat} {x y z : Array Value} {v1 v2 v3 : Value} (h : Bxs w W [(B, 37, x), (B + 1, 37, y), (B + 1 + 1, 37, z), (B + 1 + 1 + 1, 37, #[v1, v2, v3])]) (hB : w.heap.size ≤ B) (f1 f2 : Int) (f3 : ByteArray) :
    Bxs w (((W.setCell ⟨B + 1 + 1 + 1, 0, none⟩ (.int .i64 f1)).setCell ⟨B + 1 + 1 + 1, 1, none⟩ (.int .i64 f2)).setCell ⟨B + 1 + 1 + 1, 2, none⟩ (.string f3)) [(B, 37, x), (B + 1, 37, y), (B + 1 + 1, 37, z), (B + 1 + 1 + 1, 37, #[.int .i64 f1, .int .i64 f2, .string f3])] := by
  have h3 := (((h.get 3 rfl).set_ 0 (.int .i64 f1)).set_ 1 (.int .i64 f2)).set_ 2 (.string f3)
  have hl : w.heap.size ≤ B + 1 + 1 + 1 := by omega
  refine ⟨fun g t cs hm => ?_, ((h.bel.setCell (p := ⟨B + 1 + 1 + 1, 0, none⟩) hl _).setCell (p := ⟨B + 1 + 1 + 1, 1, none⟩) hl _).setCell (p := ⟨B + 1 + 1 + 1, 2, none⟩) hl _⟩
  have keep : ∀ g t cs, Blk W g t cs → g ≠ B + 1 + 1 + 1 → Blk (((W.setCell ⟨B + 1 + 1 + 1, 0, none⟩ (.int .i64 f1)).setCell ⟨B + 1 + 1 + 1, 1, none⟩ (.int .i64 f2)).setCell ⟨B + 1 + 1 + 1, 2, none⟩ (.string f3)) g t cs := fun g t cs hb hne => ((Blk.far hb (p := ⟨B + 1 + 1 + 1, 0, none⟩) hne _).far (p := ⟨B + 1 + 1 + 1, 1, none⟩) hne _).far (p := ⟨B + 1 + 1 + 1, 2, none⟩) hne _
  simp only [List.mem_cons, Prod.mk.injEq, List.mem_nil_iff, or_false] at hm
  rcases hm with ⟨rfl, rfl, rfl⟩ | ⟨rfl, rfl, rfl⟩ | ⟨rfl, rfl, rfl⟩ | ⟨rfl, rfl, rfl⟩
  · exact keep _ _ _ (h.get 0 rfl) (by omega)
  · exact keep _ _ _ (h.get 1 rfl) (by omega)
  · exact keep _ _ _ (h.get 2 rfl) (by omega)
  · exact h3
abbrev S9 (B : Nat) (o1 o2 : Int) (o3 : ByteArray) (a1 a2 : Int) (a3 : ByteArray) (b1 b2 : Int) (b3 : ByteArray) (wr : World) : Prop :=
  wr.cell? ⟨B, 0, none⟩ = some (.int .i64 o1) ∧ wr.cell? ⟨B, 1, none⟩ = some (.int .i64 o2) ∧ wr.cell? ⟨B, 2, none⟩ = some (.string o3) ∧ wr.cell? ⟨B + 1, 0, none⟩ = some (.int .i64 a1) ∧ wr.cell? ⟨B + 1, 1, none⟩ = some (.int .i64 a2) ∧ wr.cell? ⟨B + 1, 2, none⟩ = some (.string a3) ∧ wr.cell? ⟨B + 1 + 1, 0, none⟩ = some (.int .i64 b1) ∧ wr.cell? ⟨B + 1 + 1, 1, none⟩ = some (.int .i64 b2) ∧ wr.cell? ⟨B + 1 + 1, 2, none⟩ = some (.string b3)
set_option maxHeartbeats 8000000 in
theorem one_any (o1 o2 : Int) (o3 : ByteArray) (a1 a2 : Int) (a3 : ByteArray) (b1 b2 : Int) (b3 : ByteArray) (f1 f2 : Int) (f3 : ByteArray) (c : Bool) (hc : oneF (o1, o2, o3) (a1, a2, a3) (b1, b2, b3) = ((f1, f2, f3), c)) (w : World) :
    Calls Tryz.prog 21 #[.agg #[.int .i64 o1, .int .i64 o2, .string o3], .agg #[.int .i64 a1, .int .i64 a2, .string a3], .agg #[.int .i64 b1, .int .i64 b2, .string b3]] w fun e w' => e = .returned (.tuple #[.agg #[.int .i64 f1, .int .i64 f2, .string f3], .bool c]) ∧ Below w.heap.size w w' := by
  have HC := Lib.hid hc
  clear hc
  by_cases ho : ((a1, a2, a3) : F3) = (o1, o2, o3)
  · have heq : ∀ wq, Sem.run Tryz.prog (binOp .eql 37 (.agg #[.int .i64 a1, .int .i64 a2, .string a3]) (.agg #[.int .i64 o1, .int .i64 o2, .string o3])) wq = .ok (.bool true) wq := fun wq => by have := eqF_run (a1, a2, a3) (o1, o2, o3) wq; rw [decide_eq_true ho] at this; exact this
    have HR := Lib.hid (show (((b1, b2, b3) : F3), false) = ((f1, f2, f3), c) from by rw [← HC.out]; unfold oneF; rw [if_pos ho])
    clear ho
    have HX0 := Lib.hid ((Bxs.three w 37 37 37 #[.int .i64 o1, .int .i64 o2, .string o3] #[.int .i64 a1, .int .i64 a2, .string a3] #[.int .i64 b1, .int .i64 b2, .string b3]).put 37 #[.int .i64 b1, .int .i64 b2, .string b3] (w.heap.size + 1 + 1 + 1) (by simp))
    go_enter Tryz.func21, Tryz.ntmps21
    go_wp2_with fail
    obtain ⟨h1, rfl⟩ := Prod.mk.inj HR.out
    obtain ⟨rfl, h2⟩ := Prod.mk.inj h1
    obtain ⟨rfl, rfl⟩ := Prod.mk.inj h2
    exact one_out (cs := #[.int .i64 b1, .int .i64 b2, .string b3]) (g := w.heap.size + 1 + 1 + 1) rfl rfl rfl rfl (HX0.out.get 3 rfl) ⟨rfl, HX0.out.bel⟩
  · have heq : ∀ wq, Sem.run Tryz.prog (binOp .eql 37 (.agg #[.int .i64 a1, .int .i64 a2, .string a3]) (.agg #[.int .i64 o1, .int .i64 o2, .string o3])) wq = .ok (.bool false) wq := fun wq => by have := eqF_run (a1, a2, a3) (o1, o2, o3) wq; rw [decide_eq_false ho] at this; exact this
    have HR := Lib.hid (show (((a1, a2, a3) : F3), !decide ((b1, b2, b3) = (o1, o2, o3)) && !decide ((a1, a2, a3) = (b1, b2, b3))) = ((f1, f2, f3), c) from by rw [← HC.out]; unfold oneF; rw [if_neg ho])
    clear ho
    have HX0 := Lib.hid ((Bxs.three w 37 37 37 #[.int .i64 o1, .int .i64 o2, .string o3] #[.int .i64 a1, .int .i64 a2, .string a3] #[.int .i64 b1, .int .i64 b2, .string b3]).put 37 #[.int .i64 0, .int .i64 0, .string .empty] (w.heap.size + 1 + 1 + 1) (by simp))
    obtain ⟨W1, hW1⟩ : ∃ W1, (((w.alloc (.cells #[.int .i64 o1, .int .i64 o2, .string o3] 37)).alloc (.cells #[.int .i64 a1, .int .i64 a2, .string a3] 37)).alloc (.cells #[.int .i64 b1, .int .i64 b2, .string b3] 37)).alloc (.cells #[.int .i64 0, .int .i64 0, .string { data := #[] }] 37) = W1 := ⟨_, rfl⟩
    have HX1 := Lib.hid (show Bxs w W1 ([(w.heap.size, 37, #[.int .i64 o1, .int .i64 o2, .string o3]), (w.heap.size + 1, 37, #[.int .i64 a1, .int .i64 a2, .string a3]), (w.heap.size + 1 + 1, 37, #[.int .i64 b1, .int .i64 b2, .string b3]), (w.heap.size + 1 + 1 + 1, 37, #[.int .i64 0, .int .i64 0, .string .empty])]) from hW1 ▸ HX0.out)
    have HW1 := Lib.hid hW1
    clear hW1
    go_enter Tryz.func21, Tryz.ntmps21
    go_wp2_with fail
    rw [HW1.out]
    have HV0 := Lib.hid (show Bxs w W1.drew _ from HX1.out.drewN 1)
    obtain ⟨V1, hV1⟩ : ∃ V1, W1.drew = V1 := ⟨_, rfl⟩
    have HV := Lib.hid (hV1 ▸ HV0.out)
    have HVV := Lib.hid hV1
    clear hV1
    clear HX0 HW1 heq HX1
    have HGL := Lib.hid (Nat.le_refl w.heap.size)
    have HS9 := Lib.hid (fun (W : World) (u1 u2 u3 : Value) (h : Bxs w W ([(w.heap.size, 37, #[.int .i64 o1, .int .i64 o2, .string o3]), (w.heap.size + 1, 37, #[.int .i64 a1, .int .i64 a2, .string a3]), (w.heap.size + 1 + 1, 37, #[.int .i64 b1, .int .i64 b2, .string b3]), (w.heap.size + 1 + 1 + 1, 37, #[u1, u2, u3])])) => show (S9 w.heap.size o1 o2 o3 a1 a2 a3 b1 b2 b3 W) from ⟨(h.get 0 rfl).cell 0, (h.get 0 rfl).cell 1, (h.get 0 rfl).cell 2, (h.get 1 rfl).cell 0, (h.get 1 rfl).cell 1, (h.get 1 rfl).cell 2, (h.get 2 rfl).cell 0, (h.get 2 rfl).cell 1, (h.get 2 rfl).cell 2⟩)
    by_cases hb : ((b1, b2, b3) : F3) = (o1, o2, o3)
    · have hn1 : ∀ wq, Sem.run Tryz.prog (binOp .neq 37 (.agg #[.int .i64 b1, .int .i64 b2, .string b3]) (.agg #[.int .i64 o1, .int .i64 o2, .string o3])) wq = .ok (.bool false) wq := fun wq => by have := neF_run (b1, b2, b3) (o1, o2, o3) wq; rw [decide_eq_true hb] at this; exact this
      have HD := Lib.hid (show false = c from by rw [← (Prod.mk.inj HR.out).2, decide_eq_true hb]; rfl)
      clear HC
      refine wp_region_E [([], (S9 w.heap.size o1 o2 o3 a1 a2 a3 b1 b2 b3))] (by kernel_rfl) ⟨fun _ => HS9.out _ _ _ _ HV0.out, trivial⟩ (fun hHeld => ?_)
      rw [HVV.out] at hHeld ⊢
      refine wpAnyE_load (i := 0) _ _ (v := ?_) rfl (by kernel_rfl) List.mem_cons_self (by kernel_rfl) (by kernel_rfl) (by kernel_rfl) (by kernel_rfl) (fun _ _ _ h => h) (Or.inl ⟨by rfl, ?_⟩) hHeld (fun hHeld => ?_)
      rotate_left
      · (intro w hSw; (try dsimp only at hSw); (try simp only [List.getElem_toArray, List.getElem_cons_succ, List.getElem_cons_zero]); go_simp; try with_reducible rfl)
      try simp only [List.getElem_toArray, List.getElem_cons_succ, List.getElem_cons_zero, Act.put, List.setIfInBounds_toArray, List.set_cons_zero, List.set_cons_succ]
      refine wpAnyE_load (i := 1) _ _ (v := ?_) rfl (by kernel_rfl) List.mem_cons_self (by kernel_rfl) (by kernel_rfl) (by kernel_rfl) (by kernel_rfl) (fun _ _ _ h => h) (Or.inl ⟨by rfl, ?_⟩) hHeld (fun hHeld => ?_)
      rotate_left
      · (intro w hSw; (try dsimp only at hSw); (try simp only [List.getElem_toArray, List.getElem_cons_succ, List.getElem_cons_zero]); go_simp; try with_reducible rfl)
      try simp only [List.getElem_toArray, List.getElem_cons_succ, List.getElem_cons_zero, Act.put, List.setIfInBounds_toArray, List.set_cons_zero, List.set_cons_succ]
      refine wpAnyE_load (i := 2) _ _ (v := ?_) rfl (by kernel_rfl) List.mem_cons_self (by kernel_rfl) (by kernel_rfl) (by kernel_rfl) (by kernel_rfl) (fun _ _ _ h => h) (Or.inl ⟨by rfl, ?_⟩) hHeld (fun hHeld => ?_)
      rotate_left
      · (intro w hSw; (try dsimp only at hSw); (try simp only [List.getElem_toArray, List.getElem_cons_succ, List.getElem_cons_zero]); go_simp; try with_reducible rfl)
      try simp only [List.getElem_toArray, List.getElem_cons_succ, List.getElem_cons_zero, Act.put, List.setIfInBounds_toArray, List.set_cons_zero, List.set_cons_succ]
      refine wpAnyE_take (i := 3) (v := ?_) rfl (by kernel_rfl) (by kernel_rfl) (by kernel_rfl) (by kernel_rfl) (fun _ _ _ h => h) (Or.inl ⟨by rfl, ?_⟩) hHeld (fun hHeld => ?_)
      rotate_left
      · (intro w hSw; (try dsimp only at hSw); (try simp only [List.getElem_toArray, List.getElem_cons_succ, List.getElem_cons_zero]); go_simp; try with_reducible rfl)
      try simp only [List.getElem_toArray, List.getElem_cons_succ, List.getElem_cons_zero, Act.put, List.setIfInBounds_toArray, List.set_cons_zero, List.set_cons_succ]
      refine wpAnyE_take (i := 4) (v := ?_) rfl (by kernel_rfl) (by kernel_rfl) (by kernel_rfl) (by kernel_rfl) (fun _ _ _ h => h) (Or.inl ⟨by rfl, ?_⟩) hHeld (fun hHeld => ?_)
      rotate_left
      · (intro w hSw; (try dsimp only at hSw); (try simp only [List.getElem_toArray, List.getElem_cons_succ, List.getElem_cons_zero]); go_simp; try with_reducible rfl)
      try simp only [List.getElem_toArray, List.getElem_cons_succ, List.getElem_cons_zero, Act.put, List.setIfInBounds_toArray, List.set_cons_zero, List.set_cons_succ]
      refine wpAnyE_take (i := 5) (v := undef) rfl (by kernel_rfl) (by kernel_rfl) (by kernel_rfl) (by kernel_rfl) (fun _ _ _ h => h) (Or.inr ⟨by rfl, rfl⟩) hHeld (fun hHeld => ?_)
      try simp only [List.getElem_toArray, List.getElem_cons_succ, List.getElem_cons_zero, Act.put, List.setIfInBounds_toArray, List.set_cons_zero, List.set_cons_succ]
      refine wpAnyE_take (i := 6) (v := undef) rfl (by kernel_rfl) (by kernel_rfl) (by kernel_rfl) (by kernel_rfl) (fun _ _ _ h => h) (Or.inr ⟨by rfl, rfl⟩) hHeld (fun hHeld => ?_)
      try simp only [List.getElem_toArray, List.getElem_cons_succ, List.getElem_cons_zero, Act.put, List.setIfInBounds_toArray, List.set_cons_zero, List.set_cons_succ]
      refine wpAnyE_take (i := 7) (v := undef) rfl (by kernel_rfl) (by kernel_rfl) (by kernel_rfl) (by kernel_rfl) (fun _ _ _ h => h) (Or.inr ⟨by rfl, rfl⟩) hHeld (fun hHeld => ?_)
      try simp only [List.getElem_toArray, List.getElem_cons_succ, List.getElem_cons_zero, Act.put, List.setIfInBounds_toArray, List.set_cons_zero, List.set_cons_succ]
      refine wpAnyE_take (i := 8) (v := ?_) rfl (by kernel_rfl) (by kernel_rfl) (by kernel_rfl) (by kernel_rfl) (fun _ _ _ h => h) (Or.inl ⟨by rfl, ?_⟩) hHeld (fun hHeld => ?_)
      rotate_left
      · (intro w hSw; (try dsimp only at hSw); (try simp only [List.getElem_toArray, List.getElem_cons_succ, List.getElem_cons_zero]); go_simp; try with_reducible rfl)
      try simp only [List.getElem_toArray, List.getElem_cons_succ, List.getElem_cons_zero, Act.put, List.setIfInBounds_toArray, List.set_cons_zero, List.set_cons_succ]
      have hV := HV.out
      have u0 := (hV.get 3 rfl).frozen 0
      have v0 := (hV.get 3 rfl).cell 0
      have u1 := (hV.get 3 rfl).frozen 1
      have v1 := (hV.get 3 rfl).cell 1
      have u2 := (hV.get 3 rfl).frozen 2
      have v2 := (hV.get 3 rfl).cell 2
      simp only [List.getElem?_toArray, List.getElem?_cons_zero, List.getElem?_cons_succ] at v0 v1 v2
      clear hV
      refine wpAnyE_ready (rs := [9]) (by kernel_rfl) (by simp) (AllE.cons rfl (fun K hK => ?_) AllE.nil)
      clear hHeld
      go_simp
      have HF := Lib.hid (store3 HV.out HGL.out a1 a2 a3)
      refine hK.out _ _ ⟨fun _ => HS9.out _ _ _ _ HF.out, trivial⟩ (fun hHeld => ?_)
      clear hK K u0 u1 u2 v0 v1 v2
      try simp only [List.getElem_toArray, List.getElem_cons_succ, List.getElem_cons_zero, Act.put, List.setIfInBounds_toArray, List.set_cons_zero, List.set_cons_succ]
      refine wpAnyE_take (i := 10) (v := ?_) rfl (by kernel_rfl) (by kernel_rfl) (by kernel_rfl) (by kernel_rfl) (fun _ _ _ h => h) (Or.inl ⟨by rfl, ?_⟩) hHeld (fun hHeld => ?_)
      rotate_left
      · (intro w hSw; (try dsimp only at hSw); (try simp only [List.getElem_toArray, List.getElem_cons_succ, List.getElem_cons_zero]); go_simp; try with_reducible rfl)
      try simp only [List.getElem_toArray, List.getElem_cons_succ, List.getElem_cons_zero, Act.put, List.setIfInBounds_toArray, List.set_cons_zero, List.set_cons_succ]
      refine wpAnyE_done (by kernel_rfl) (only_normal ?_) _
      go_wp2_with fail
      obtain ⟨h1, h2'⟩ := Prod.mk.inj HR.out
      obtain ⟨rfl, h2⟩ := Prod.mk.inj h1
      obtain ⟨rfl, rfl⟩ := Prod.mk.inj h2
      obtain rfl := HD.out
      exact one_out (cs := #[.int .i64 a1, .int .i64 a2, .string a3]) (g := w.heap.size + 1 + 1 + 1) rfl rfl rfl rfl (HF.out.get 3 rfl) ⟨rfl, HF.out.bel⟩
    · have hn1 : ∀ wq, Sem.run Tryz.prog (binOp .neq 37 (.agg #[.int .i64 b1, .int .i64 b2, .string b3]) (.agg #[.int .i64 o1, .int .i64 o2, .string o3])) wq = .ok (.bool true) wq := fun wq => by have := neF_run (b1, b2, b3) (o1, o2, o3) wq; rw [decide_eq_false hb] at this; exact this
      by_cases hab : ((a1, a2, a3) : F3) = (b1, b2, b3)
      · have hn2 : ∀ wq, Sem.run Tryz.prog (binOp .neq 37 (.agg #[.int .i64 a1, .int .i64 a2, .string a3]) (.agg #[.int .i64 b1, .int .i64 b2, .string b3])) wq = .ok (.bool false) wq := fun wq => by have := neF_run (a1, a2, a3) (b1, b2, b3) wq; rw [decide_eq_true hab] at this; exact this
        have HD := Lib.hid (show false = c from by rw [← (Prod.mk.inj HR.out).2, decide_eq_false hb, decide_eq_true hab]; rfl)
        clear HC
        refine wp_region_E [([], (S9 w.heap.size o1 o2 o3 a1 a2 a3 b1 b2 b3))] (by kernel_rfl) ⟨fun _ => HS9.out _ _ _ _ HV0.out, trivial⟩ (fun hHeld => ?_)
        rw [HVV.out] at hHeld ⊢
        refine wpAnyE_load (i := 0) _ _ (v := ?_) rfl (by kernel_rfl) List.mem_cons_self (by kernel_rfl) (by kernel_rfl) (by kernel_rfl) (by kernel_rfl) (fun _ _ _ h => h) (Or.inl ⟨by rfl, ?_⟩) hHeld (fun hHeld => ?_)
        rotate_left
        · (intro w hSw; (try dsimp only at hSw); (try simp only [List.getElem_toArray, List.getElem_cons_succ, List.getElem_cons_zero]); go_simp; try with_reducible rfl)
        try simp only [List.getElem_toArray, List.getElem_cons_succ, List.getElem_cons_zero, Act.put, List.setIfInBounds_toArray, List.set_cons_zero, List.set_cons_succ]
        refine wpAnyE_load (i := 1) _ _ (v := ?_) rfl (by kernel_rfl) List.mem_cons_self (by kernel_rfl) (by kernel_rfl) (by kernel_rfl) (by kernel_rfl) (fun _ _ _ h => h) (Or.inl ⟨by rfl, ?_⟩) hHeld (fun hHeld => ?_)
        rotate_left
        · (intro w hSw; (try dsimp only at hSw); (try simp only [List.getElem_toArray, List.getElem_cons_succ, List.getElem_cons_zero]); go_simp; try with_reducible rfl)
        try simp only [List.getElem_toArray, List.getElem_cons_succ, List.getElem_cons_zero, Act.put, List.setIfInBounds_toArray, List.set_cons_zero, List.set_cons_succ]
        refine wpAnyE_load (i := 2) _ _ (v := ?_) rfl (by kernel_rfl) List.mem_cons_self (by kernel_rfl) (by kernel_rfl) (by kernel_rfl) (by kernel_rfl) (fun _ _ _ h => h) (Or.inl ⟨by rfl, ?_⟩) hHeld (fun hHeld => ?_)
        rotate_left
        · (intro w hSw; (try dsimp only at hSw); (try simp only [List.getElem_toArray, List.getElem_cons_succ, List.getElem_cons_zero]); go_simp; try with_reducible rfl)
        try simp only [List.getElem_toArray, List.getElem_cons_succ, List.getElem_cons_zero, Act.put, List.setIfInBounds_toArray, List.set_cons_zero, List.set_cons_succ]
        refine wpAnyE_take (i := 3) (v := ?_) rfl (by kernel_rfl) (by kernel_rfl) (by kernel_rfl) (by kernel_rfl) (fun _ _ _ h => h) (Or.inl ⟨by rfl, ?_⟩) hHeld (fun hHeld => ?_)
        rotate_left
        · (intro w hSw; (try dsimp only at hSw); (try simp only [List.getElem_toArray, List.getElem_cons_succ, List.getElem_cons_zero]); go_simp; try with_reducible rfl)
        try simp only [List.getElem_toArray, List.getElem_cons_succ, List.getElem_cons_zero, Act.put, List.setIfInBounds_toArray, List.set_cons_zero, List.set_cons_succ]
        refine wpAnyE_take (i := 4) (v := ?_) rfl (by kernel_rfl) (by kernel_rfl) (by kernel_rfl) (by kernel_rfl) (fun _ _ _ h => h) (Or.inl ⟨by rfl, ?_⟩) hHeld (fun hHeld => ?_)
        rotate_left
        · (intro w hSw; (try dsimp only at hSw); (try simp only [List.getElem_toArray, List.getElem_cons_succ, List.getElem_cons_zero]); go_simp; try with_reducible rfl)
        try simp only [List.getElem_toArray, List.getElem_cons_succ, List.getElem_cons_zero, Act.put, List.setIfInBounds_toArray, List.set_cons_zero, List.set_cons_succ]
        refine wpAnyE_load (i := 5) _ _ (v := ?_) rfl (by kernel_rfl) List.mem_cons_self (by kernel_rfl) (by kernel_rfl) (by kernel_rfl) (by kernel_rfl) (fun _ _ _ h => h) (Or.inl ⟨by rfl, ?_⟩) hHeld (fun hHeld => ?_)
        rotate_left
        · (intro w hSw; (try dsimp only at hSw); (try simp only [List.getElem_toArray, List.getElem_cons_succ, List.getElem_cons_zero]); go_simp; try with_reducible rfl)
        try simp only [List.getElem_toArray, List.getElem_cons_succ, List.getElem_cons_zero, Act.put, List.setIfInBounds_toArray, List.set_cons_zero, List.set_cons_succ]
        refine wpAnyE_load (i := 6) _ _ (v := ?_) rfl (by kernel_rfl) List.mem_cons_self (by kernel_rfl) (by kernel_rfl) (by kernel_rfl) (by kernel_rfl) (fun _ _ _ h => h) (Or.inl ⟨by rfl, ?_⟩) hHeld (fun hHeld => ?_)
        rotate_left
        · (intro w hSw; (try dsimp only at hSw); (try simp only [List.getElem_toArray, List.getElem_cons_succ, List.getElem_cons_zero]); go_simp; try with_reducible rfl)
        try simp only [List.getElem_toArray, List.getElem_cons_succ, List.getElem_cons_zero, Act.put, List.setIfInBounds_toArray, List.set_cons_zero, List.set_cons_succ]
        refine wpAnyE_take (i := 7) (v := ?_) rfl (by kernel_rfl) (by kernel_rfl) (by kernel_rfl) (by kernel_rfl) (fun _ _ _ h => h) (Or.inl ⟨by rfl, ?_⟩) hHeld (fun hHeld => ?_)
        rotate_left
        · (intro w hSw; (try dsimp only at hSw); (try simp only [List.getElem_toArray, List.getElem_cons_succ, List.getElem_cons_zero]); go_simp; try with_reducible rfl)
        try simp only [List.getElem_toArray, List.getElem_cons_succ, List.getElem_cons_zero, Act.put, List.setIfInBounds_toArray, List.set_cons_zero, List.set_cons_succ]
        refine wpAnyE_take (i := 8) (v := ?_) rfl (by kernel_rfl) (by kernel_rfl) (by kernel_rfl) (by kernel_rfl) (fun _ _ _ h => h) (Or.inl ⟨by rfl, ?_⟩) hHeld (fun hHeld => ?_)
        rotate_left
        · (intro w hSw; (try dsimp only at hSw); (try simp only [List.getElem_toArray, List.getElem_cons_succ, List.getElem_cons_zero]); go_simp; try with_reducible rfl)
        try simp only [List.getElem_toArray, List.getElem_cons_succ, List.getElem_cons_zero, Act.put, List.setIfInBounds_toArray, List.set_cons_zero, List.set_cons_succ]
        have hV := HV.out
        have u0 := (hV.get 3 rfl).frozen 0
        have v0 := (hV.get 3 rfl).cell 0
        have u1 := (hV.get 3 rfl).frozen 1
        have v1 := (hV.get 3 rfl).cell 1
        have u2 := (hV.get 3 rfl).frozen 2
        have v2 := (hV.get 3 rfl).cell 2
        simp only [List.getElem?_toArray, List.getElem?_cons_zero, List.getElem?_cons_succ] at v0 v1 v2
        clear hV
        refine wpAnyE_ready (rs := [9]) (by kernel_rfl) (by simp) (AllE.cons rfl (fun K hK => ?_) AllE.nil)
        clear hHeld
        go_simp
        have HF := Lib.hid (store3 HV.out HGL.out a1 a2 a3)
        refine hK.out _ _ ⟨fun _ => HS9.out _ _ _ _ HF.out, trivial⟩ (fun hHeld => ?_)
        clear hK K u0 u1 u2 v0 v1 v2
        try simp only [List.getElem_toArray, List.getElem_cons_succ, List.getElem_cons_zero, Act.put, List.setIfInBounds_toArray, List.set_cons_zero, List.set_cons_succ]
        refine wpAnyE_take (i := 10) (v := ?_) rfl (by kernel_rfl) (by kernel_rfl) (by kernel_rfl) (by kernel_rfl) (fun _ _ _ h => h) (Or.inl ⟨by rfl, ?_⟩) hHeld (fun hHeld => ?_)
        rotate_left
        · (intro w hSw; (try dsimp only at hSw); (try simp only [List.getElem_toArray, List.getElem_cons_succ, List.getElem_cons_zero]); go_simp; try with_reducible rfl)
        try simp only [List.getElem_toArray, List.getElem_cons_succ, List.getElem_cons_zero, Act.put, List.setIfInBounds_toArray, List.set_cons_zero, List.set_cons_succ]
        refine wpAnyE_done (by kernel_rfl) (only_normal ?_) _
        go_wp2_with fail
        obtain ⟨h1, h2'⟩ := Prod.mk.inj HR.out
        obtain ⟨rfl, h2⟩ := Prod.mk.inj h1
        obtain ⟨rfl, rfl⟩ := Prod.mk.inj h2
        obtain rfl := HD.out
        exact one_out (cs := #[.int .i64 a1, .int .i64 a2, .string a3]) (g := w.heap.size + 1 + 1 + 1) rfl rfl rfl rfl (HF.out.get 3 rfl) ⟨rfl, HF.out.bel⟩
      · have hn2 : ∀ wq, Sem.run Tryz.prog (binOp .neq 37 (.agg #[.int .i64 a1, .int .i64 a2, .string a3]) (.agg #[.int .i64 b1, .int .i64 b2, .string b3])) wq = .ok (.bool true) wq := fun wq => by have := neF_run (a1, a2, a3) (b1, b2, b3) wq; rw [decide_eq_false hab] at this; exact this
        have HD := Lib.hid (show true = c from by rw [← (Prod.mk.inj HR.out).2, decide_eq_false hb, decide_eq_false hab]; rfl)
        clear HC
        refine wp_region_E [([], (S9 w.heap.size o1 o2 o3 a1 a2 a3 b1 b2 b3))] (by kernel_rfl) ⟨fun _ => HS9.out _ _ _ _ HV0.out, trivial⟩ (fun hHeld => ?_)
        rw [HVV.out] at hHeld ⊢
        refine wpAnyE_load (i := 0) _ _ (v := ?_) rfl (by kernel_rfl) List.mem_cons_self (by kernel_rfl) (by kernel_rfl) (by kernel_rfl) (by kernel_rfl) (fun _ _ _ h => h) (Or.inl ⟨by rfl, ?_⟩) hHeld (fun hHeld => ?_)
        rotate_left
        · (intro w hSw; (try dsimp only at hSw); (try simp only [List.getElem_toArray, List.getElem_cons_succ, List.getElem_cons_zero]); go_simp; try with_reducible rfl)
        try simp only [List.getElem_toArray, List.getElem_cons_succ, List.getElem_cons_zero, Act.put, List.setIfInBounds_toArray, List.set_cons_zero, List.set_cons_succ]
        refine wpAnyE_load (i := 1) _ _ (v := ?_) rfl (by kernel_rfl) List.mem_cons_self (by kernel_rfl) (by kernel_rfl) (by kernel_rfl) (by kernel_rfl) (fun _ _ _ h => h) (Or.inl ⟨by rfl, ?_⟩) hHeld (fun hHeld => ?_)
        rotate_left
        · (intro w hSw; (try dsimp only at hSw); (try simp only [List.getElem_toArray, List.getElem_cons_succ, List.getElem_cons_zero]); go_simp; try with_reducible rfl)
        try simp only [List.getElem_toArray, List.getElem_cons_succ, List.getElem_cons_zero, Act.put, List.setIfInBounds_toArray, List.set_cons_zero, List.set_cons_succ]
        refine wpAnyE_load (i := 2) _ _ (v := ?_) rfl (by kernel_rfl) List.mem_cons_self (by kernel_rfl) (by kernel_rfl) (by kernel_rfl) (by kernel_rfl) (fun _ _ _ h => h) (Or.inl ⟨by rfl, ?_⟩) hHeld (fun hHeld => ?_)
        rotate_left
        · (intro w hSw; (try dsimp only at hSw); (try simp only [List.getElem_toArray, List.getElem_cons_succ, List.getElem_cons_zero]); go_simp; try with_reducible rfl)
        try simp only [List.getElem_toArray, List.getElem_cons_succ, List.getElem_cons_zero, Act.put, List.setIfInBounds_toArray, List.set_cons_zero, List.set_cons_succ]
        refine wpAnyE_take (i := 3) (v := ?_) rfl (by kernel_rfl) (by kernel_rfl) (by kernel_rfl) (by kernel_rfl) (fun _ _ _ h => h) (Or.inl ⟨by rfl, ?_⟩) hHeld (fun hHeld => ?_)
        rotate_left
        · (intro w hSw; (try dsimp only at hSw); (try simp only [List.getElem_toArray, List.getElem_cons_succ, List.getElem_cons_zero]); go_simp; try with_reducible rfl)
        try simp only [List.getElem_toArray, List.getElem_cons_succ, List.getElem_cons_zero, Act.put, List.setIfInBounds_toArray, List.set_cons_zero, List.set_cons_succ]
        refine wpAnyE_take (i := 4) (v := ?_) rfl (by kernel_rfl) (by kernel_rfl) (by kernel_rfl) (by kernel_rfl) (fun _ _ _ h => h) (Or.inl ⟨by rfl, ?_⟩) hHeld (fun hHeld => ?_)
        rotate_left
        · (intro w hSw; (try dsimp only at hSw); (try simp only [List.getElem_toArray, List.getElem_cons_succ, List.getElem_cons_zero]); go_simp; try with_reducible rfl)
        try simp only [List.getElem_toArray, List.getElem_cons_succ, List.getElem_cons_zero, Act.put, List.setIfInBounds_toArray, List.set_cons_zero, List.set_cons_succ]
        refine wpAnyE_load (i := 5) _ _ (v := ?_) rfl (by kernel_rfl) List.mem_cons_self (by kernel_rfl) (by kernel_rfl) (by kernel_rfl) (by kernel_rfl) (fun _ _ _ h => h) (Or.inl ⟨by rfl, ?_⟩) hHeld (fun hHeld => ?_)
        rotate_left
        · (intro w hSw; (try dsimp only at hSw); (try simp only [List.getElem_toArray, List.getElem_cons_succ, List.getElem_cons_zero]); go_simp; try with_reducible rfl)
        try simp only [List.getElem_toArray, List.getElem_cons_succ, List.getElem_cons_zero, Act.put, List.setIfInBounds_toArray, List.set_cons_zero, List.set_cons_succ]
        refine wpAnyE_load (i := 6) _ _ (v := ?_) rfl (by kernel_rfl) List.mem_cons_self (by kernel_rfl) (by kernel_rfl) (by kernel_rfl) (by kernel_rfl) (fun _ _ _ h => h) (Or.inl ⟨by rfl, ?_⟩) hHeld (fun hHeld => ?_)
        rotate_left
        · (intro w hSw; (try dsimp only at hSw); (try simp only [List.getElem_toArray, List.getElem_cons_succ, List.getElem_cons_zero]); go_simp; try with_reducible rfl)
        try simp only [List.getElem_toArray, List.getElem_cons_succ, List.getElem_cons_zero, Act.put, List.setIfInBounds_toArray, List.set_cons_zero, List.set_cons_succ]
        refine wpAnyE_take (i := 7) (v := ?_) rfl (by kernel_rfl) (by kernel_rfl) (by kernel_rfl) (by kernel_rfl) (fun _ _ _ h => h) (Or.inl ⟨by rfl, ?_⟩) hHeld (fun hHeld => ?_)
        rotate_left
        · (intro w hSw; (try dsimp only at hSw); (try simp only [List.getElem_toArray, List.getElem_cons_succ, List.getElem_cons_zero]); go_simp; try with_reducible rfl)
        try simp only [List.getElem_toArray, List.getElem_cons_succ, List.getElem_cons_zero, Act.put, List.setIfInBounds_toArray, List.set_cons_zero, List.set_cons_succ]
        refine wpAnyE_take (i := 8) (v := ?_) rfl (by kernel_rfl) (by kernel_rfl) (by kernel_rfl) (by kernel_rfl) (fun _ _ _ h => h) (Or.inl ⟨by rfl, ?_⟩) hHeld (fun hHeld => ?_)
        rotate_left
        · (intro w hSw; (try dsimp only at hSw); (try simp only [List.getElem_toArray, List.getElem_cons_succ, List.getElem_cons_zero]); go_simp; try with_reducible rfl)
        try simp only [List.getElem_toArray, List.getElem_cons_succ, List.getElem_cons_zero, Act.put, List.setIfInBounds_toArray, List.set_cons_zero, List.set_cons_succ]
        have hV := HV.out
        have u0 := (hV.get 3 rfl).frozen 0
        have v0 := (hV.get 3 rfl).cell 0
        have u1 := (hV.get 3 rfl).frozen 1
        have v1 := (hV.get 3 rfl).cell 1
        have u2 := (hV.get 3 rfl).frozen 2
        have v2 := (hV.get 3 rfl).cell 2
        simp only [List.getElem?_toArray, List.getElem?_cons_zero, List.getElem?_cons_succ] at v0 v1 v2
        clear hV
        refine wpAnyE_ready (rs := [9]) (by kernel_rfl) (by simp) (AllE.cons rfl (fun K hK => ?_) AllE.nil)
        clear hHeld
        go_simp
        have HF := Lib.hid (store3 HV.out HGL.out a1 a2 a3)
        refine hK.out _ _ ⟨fun _ => HS9.out _ _ _ _ HF.out, trivial⟩ (fun hHeld => ?_)
        clear hK K u0 u1 u2 v0 v1 v2
        try simp only [List.getElem_toArray, List.getElem_cons_succ, List.getElem_cons_zero, Act.put, List.setIfInBounds_toArray, List.set_cons_zero, List.set_cons_succ]
        refine wpAnyE_take (i := 10) (v := ?_) rfl (by kernel_rfl) (by kernel_rfl) (by kernel_rfl) (by kernel_rfl) (fun _ _ _ h => h) (Or.inl ⟨by rfl, ?_⟩) hHeld (fun hHeld => ?_)
        rotate_left
        · (intro w hSw; (try dsimp only at hSw); (try simp only [List.getElem_toArray, List.getElem_cons_succ, List.getElem_cons_zero]); go_simp; try with_reducible rfl)
        try simp only [List.getElem_toArray, List.getElem_cons_succ, List.getElem_cons_zero, Act.put, List.setIfInBounds_toArray, List.set_cons_zero, List.set_cons_succ]
        refine wpAnyE_done (by kernel_rfl) (only_normal ?_) _
        go_wp2_with fail
        obtain ⟨h1, h2'⟩ := Prod.mk.inj HR.out
        obtain ⟨rfl, h2⟩ := Prod.mk.inj h1
        obtain ⟨rfl, rfl⟩ := Prod.mk.inj h2
        obtain rfl := HD.out
        exact one_out (cs := #[.int .i64 a1, .int .i64 a2, .string a3]) (g := w.heap.size + 1 + 1 + 1) rfl rfl rfl rfl (HF.out.get 3 rfl) ⟨rfl, HF.out.bel⟩
end Go.Proofs.YtlcchkpjcekinaaGreatDoor
