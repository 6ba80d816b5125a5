/- The ring of changes: New, place, Push. -/
import Derived.Test.YthcjbljkokflgaaFaf
set_option linter.unnecessarySimpa false
namespace Go.Proofs.Ythcjbljkokflgaa
open Go.RowKit
open Go.Lib
set_option linter.unusedVariables false
set_option linter.unusedSimpArgs false
set_option maxRecDepth 100000
theorem info_ch : (Try.prog.info? 72).map (fun i => (i.zero, i.size, i.bytes)) = some (some (.agg #[.int .i64 0, .string ⟨#[]⟩]), 2, 24) := by kernel_rfl
theorem parts_of {e : TypeId} {z : Value} {a b : Nat} (h : (Try.prog.info? e).map (fun i => (i.zero, i.size, i.bytes)) = some (some z, a, b)) : ∃ i, Try.prog.info? e = some i ∧ i.zero = some z ∧ i.size = a ∧ i.bytes = b := by
  cases hh : Try.prog.info? e with
  | none => rw [hh] at h; cases h
  | some i => rw [hh] at h; simp at h; exact ⟨i, rfl, h.1, h.2.1, h.2.2⟩
def PT (t : TypeId) : Prop := t = 108 ∨ t = 72
/-- A ring: its box, its row (in the order in which it lies). -/
def Rg (w : World) (B R : Nat) (most : Int) (F : Nat) (l : List Chg) : Prop := ∃ v, Blk w R 108 #[.int .i64 most, v, .int .i64 (F : Int)] ∧ w.ownsRow B 72 2 v l.length (chC l) ∧ B ≤ R
theorem Rg.below {w w' : World} {B R : Nat} {most : Int} {F : Nat} {l : List Chg} (h : Rg w B R most F l) (hb : Below w.heap.size w w') : Rg w' B R most F l := by
  obtain ⟨v, h1, h2, h3⟩ := h
  exact ⟨v, h1.below hb h1.lt, own_keep h2 (fun j hj => hb.block j (h2.lt j hj).2), h3⟩
theorem Rg.keep {T : TypeId → Prop} {B' : Nat} {w w' : World} {B R : Nat} {most : Int} {F : Nat} {l : List Chg} (h : Rg w B R most F l) (k : Kc T B' w w') (h1 : ¬ T 108) (h2 : ¬ T 72) : Rg w' B R most F l := by
  obtain ⟨v, e1, e2, e3⟩ := h
  exact ⟨v, k.far R _ _ e1 h1, k.row e2 h2, e3⟩
/-- Where its row lies: below N. -/
def RgN (w : World) (B R : Nat) (most : Int) (F : Nat) (l : List Chg) (N : Nat) : Prop := ∃ v, Blk w R 108 #[.int .i64 most, v, .int .i64 (F : Int)] ∧ w.ownsRow B 72 2 v l.length (chC l) ∧ B ≤ R ∧ ∀ k, v.ownBlock = some k → k < N
theorem Rg.n {w : World} {B R : Nat} {most : Int} {F : Nat} {l : List Chg} (h : Rg w B R most F l) : RgN w B R most F l w.heap.size := by
  obtain ⟨v, h1, h2, h3⟩ := h
  exact ⟨v, h1, h2, h3, fun k hk => (h2.lt k hk).2⟩
theorem RgN.below {w w' : World} {B R : Nat} {most : Int} {F : Nat} {l : List Chg} {N : Nat} (h : RgN w B R most F l N) (hb : Below w.heap.size w w') : RgN w' B R most F l N := by
  obtain ⟨v, h1, h2, h3, h4⟩ := h
  exact ⟨v, h1.below hb h1.lt, own_keep h2 (fun j hj => hb.block j (h2.lt j hj).2), h3, h4⟩
def RgM (w : World) (B R : Nat) (most : Int) (F : Nat) (l : List Chg) (N M : Nat) : Prop := ∃ v, Blk w R 108 #[.int .i64 most, v, .int .i64 (F : Int)] ∧ w.ownsRow B 72 2 v l.length (chC l) ∧ B ≤ R ∧ ∀ k, v.ownBlock = some k → k < N ∨ M ≤ k
theorem RgM.rg {w : World} {B R : Nat} {most : Int} {F : Nat} {l : List Chg} {N M : Nat} (h : RgM w B R most F l N M) : Rg w B R most F l := by
  obtain ⟨v, h1, h2, h3, _⟩ := h
  exact ⟨v, h1, h2, h3⟩
theorem RgM.set {w : World} {B R : Nat} {most : Int} {F : Nat} {l : List Chg} {N M j : Nat} (h : RgM w B R most F l N M) (h1 : N ≤ j) (h2 : j < M) (hR : j ≠ R) (i : Nat) (u : Value) : RgM (w.setCell ⟨j, i, none⟩ u) B R most F l N M := by
  obtain ⟨v, e1, e2, e3, e4⟩ := h
  exact ⟨v, (Below.heap_setCell w ⟨j, i, none⟩ u R (fun e => hR e.symm)).trans e1, own_keep e2 (fun k hk => Below.heap_setCell w ⟨j, i, none⟩ u k (fun e => by have h5 := e4 k hk; have h6 : k = j := e; omega)), e3, e4⟩
theorem rg_lt {w : World} {B R : Nat} {most : Int} {F : Nat} {l : List Chg} (h : Rg w B R most F l) : R < w.heap.size := by
  obtain ⟨v, e1, _⟩ := h
  exact e1.lt
def Hi (N R : Nat) (w w' : World) : Prop := ∀ j, N ≤ j → j < w.heap.size → j ≠ R → w'.heap[j]? = w.heap[j]?
theorem rg_new (m : Int) (w : World) (B : Nat) (hB : B ≤ w.heap.size) : Calls Try.prog 40 #[.int .i64 m] w fun e w' => e = .returned (.pointer (some ⟨w.heap.size, 0, none⟩)) ∧ Rg w' B w.heap.size (max m 1) 0 [] ∧ Below w.heap.size w w' := by
  go_enter Try.func40, Try.ntmps40
  go_wp2
  all_goals (
    go_ret
    refine ⟨rfl, ⟨.slice none 0 0, ?_, World.ownsRow_nil _ _ _ _, hB⟩, (Below.refl _ _).alloc (Nat.le_refl _) _⟩
    first
      | (rw [show max m 1 = 1 by omega]; exact Blk.new _ _ _)
      | (rw [show max m 1 = m by omega]; exact Blk.new _ _ _))
theorem rg_place {w : World} {R : Nat} {most : Int} {F i n : Nat} {A : Option Addr} {cap : Nat} (hb : Blk w R 108 #[.int .i64 most, .slice A n cap, .int .i64 (F : Int)]) (h1 : 0 < n) (h2 : n ≤ 1000000) (hF : F < n) (hi : i ≤ n) :
    Calls Try.prog 60 #[.pointer (some ⟨R, 0, none⟩), .int .i64 (i : Int)] w fun e w' => e = .returned (.int .i64 (((F + i) % n : Nat) : Int)) ∧ ∃ nq, w' = w.drewN nq := by
  have c1 := hb.cell 1
  have c2 := hb.cell 2
  simp only [List.getElem?_toArray, List.getElem?_cons_zero, List.getElem?_cons_succ] at c1 c2
  have hz : ((n : Int) == 0) = false := by simp; omega
  have hz2 : ¬ (n : Int) = 0 := by omega
  have i1 : wrap64 ((F : Int) + (i : Int)) = (F : Int) + (i : Int) := IntWalk.wrap64_in _ (by omega)
  clear hb
  go_enter Try.func60, Try.ntmps60
  go_wp2
  go_quiet (fail)
  go_wp2
  go_ret
  exact ⟨ret_i64 (by push_cast; rfl), _, rfl⟩
theorem results_cell1' {fn : Func} {p r : Tmp} {ty : TypeId} (h : fn.results = #[.cell p ty, .tmp r]) (tmps : Array Value) (P : Program) (w : World) (g : Nat) (t : TypeId) (cs : Array Value) (fr : Nat × Nat) (fs : Array Field)
    (hp : tmps.getD p undef = .pointer (some ⟨g, 0, none⟩)) (hg : w.heap[g]? = some (.cells cs t fr))
    (hu : P.underlying ty = some (.struct fs)) (hi : (P.info? ty).map (·.size) = some cs.size) :
    (results fn tmps).run P w = .ok (.tuple #[.agg cs, tmps.getD r undef]) w := by
  have hp' : tmps[p]?.getD undef = .pointer (some ⟨g, 0, none⟩) := by simpa using hp
  simp [results, h, hp', asAddr, run_loadVar_row w g t ty cs fr _ hg hu rfl hi]
theorem push_out {cs : Array Value} (hc : cs.size = 2) {R : Ending → World → Prop} {a : Act} {w : World} {g : Nat} (h2 : a.tmps.getD 4 undef = .pointer (some ⟨g, 0, none⟩)) (hd : a.defers = []) (hg : Blk w g 72 cs)
    (hR : R (.returned (.tuple #[.agg cs, a.tmps.getD 5 undef])) w) : bodyPost Try.prog Try.f44 R .ret a w :=
  bodyPost_ret (results_cell1' (fn := Try.f44) rfl a.tmps Try.prog w g 72 cs (0, 0) _ h2 hg Try.underlying72 (by rw [hc]; rfl)) hd hR
theorem kx_drewN {B : Nat} {w w' : World} (h : Below B w w') (n : Nat) : Below B w (w'.drewN n) := ⟨h.os, h.tape, h.output, h.size, h.block⟩
theorem own_ne {w : World} {B R : Nat} {t e : TypeId} {k n : Nat} {v : Value} {vs : List Value} {cs : Array Value} (h : w.ownsRow B e k v n vs) (hb : Blk w R t cs) (hte : t ≠ e) : v.ownBlock ≠ some R := fun e1 => by
  obtain ⟨h0, h3' | ⟨b, cap, cur, e2, e3, e4, e5⟩⟩ := h
  · rw [h3'.1] at e1; cases e1
  · rw [e2] at e1
    cases e1
    unfold Blk at hb
    rw [e4] at hb
    cases hb
    exact hte rfl
set_option maxHeartbeats 8000000 in
theorem push_room {w : World} {B R : Nat} {most : Int} {F : Nat} {l : List Chg} {N : Nat} (h : RgN w B R most F l N) (hn : (l.length : Int) < most) (hs : l.length ≤ 1000000) (hB : B ≤ w.heap.size) (x : Chg) :
    Calls Try.prog 44 #[.pointer (some ⟨R, 0, none⟩), .agg #[.int .i64 x.1, .string x.2]] w fun e w' => e = .returned (.tuple #[.agg #[.int .i64 0, .string ⟨#[]⟩], .bool false]) ∧ RgM w' B R most F (l ++ [x]) N w.heap.size ∧ Kc PT B w w' ∧ Hi N R w w' := by
  obtain ⟨v, hb, ho, hR, hN⟩ := h
  have HNN := Lib.hid hN
  clear hN
  obtain ⟨A, cap, bk, rfl, -, hA, -⟩ := own_ch ho
  obtain ⟨i0, hi, hz0, hz1, hz2⟩ := parts_of info_ch
  obtain ⟨n, hnl⟩ : ∃ n, l.length = n := ⟨_, rfl⟩
  rw [hnl] at hb ho hn hs
  have HNL := Lib.hid hnl
  have hlt := hb.lt
  have HB := Lib.hid hb
  have HO := Lib.hid ho
  have c0 := hb.cell 0
  have c1 := hb.cell 1
  simp only [List.getElem?_toArray, List.getElem?_cons_zero, List.getElem?_cons_succ] at c0 c1
  clear hb ho hA hnl
  go_enter Try.func44, Try.ntmps44
  go_wp2
  go_quiet (fail)
  go_wp2_with fail
  obtain ⟨W0, hW0⟩ : ∃ W, (((w.alloc (.cells #[.int .i64 x.1, .string x.2] 72)).alloc (.cells #[.int .i64 0, .string ⟨#[]⟩] 72)).drewN nq) = W := ⟨_, rfl⟩
  have HB0 := Lib.hid (show Below w.heap.size w W0 from hW0 ▸ kx_drewN (((Below.refl _ w).alloc (Nat.le_refl _) _).alloc (by simp) _) nq)
  have HX := Lib.hid (show Blk W0 w.heap.size 72 #[.int .i64 x.1, .string x.2] from hW0 ▸ ((Blk.new w _ _).alloc _).drewN _)
  have HY := Lib.hid (show Blk W0 (w.heap.size + 1) 72 #[.int .i64 0, .string ⟨#[]⟩] from by
    have := (Blk.new (w.alloc (.cells #[.int .i64 x.1, .string x.2] 72)) 72 #[.int .i64 0, .string ⟨#[]⟩]).drewN nq
    rw [World.size_alloc] at this
    exact hW0 ▸ this)
  have HR0 := Lib.hid (HB.out.below HB0.out hlt)
  have HO0 := Lib.hid (own_keep HO.out (fun j hj => HB0.out.block j (HO.out.lt j hj).2))
  rw [hW0]
  have hsz : w.heap.size + 1 + 1 ≤ W0.heap.size := HY.out.lt
  have HC := Lib.hid (fun (W : World) (hb : Below W0.heap.size W0 W) => (⟨(HR0.out.below hb HR0.out.lt).cell 1, (HX.out.below hb HX.out.lt).cell 0, (HX.out.below hb HX.out.lt).cell 1⟩ : W.cell? ⟨R, 1, none⟩ = some (.slice A n cap) ∧ W.cell? ⟨w.heap.size, 0, none⟩ = some (.int .i64 x.1) ∧ W.cell? ⟨w.heap.size, 1, none⟩ = some (.string x.2)))
  have HF0 := Lib.hid ((Below.refl W0.heap.size W0).drew)
  have HF1 := Lib.hid (show Below W0.heap.size W0 ((W0.alloc (.cells #[.int .i64 x.1, .string x.2] 72)).drew) from ((Below.refl W0.heap.size W0).alloc (Nat.le_refl _) _).drew)
  have HN := Lib.hid (show Blk ((W0.alloc (.cells #[.int .i64 x.1, .string x.2] 72)).drew) W0.heap.size 72 #[.int .i64 x.1, .string x.2] from (Blk.new W0 _ _).drew)
  have HO2 := Lib.hid (own_keep HO0.out (w' := ((W0.alloc (.cells #[.int .i64 x.1, .string x.2] 72)).drew)) (fun j hj => HF1.out.block j (HO0.out.lt j hj).2))
  have HBW := Lib.hid (show B ≤ (((W0.alloc (.cells #[.int .i64 x.1, .string x.2] 72)).drew)).heap.size by have := HF1.out.size; omega)
  have HX2 := Lib.hid (HX.out.below HF1.out HX.out.lt)
  have HFAR := Lib.hid (fun (W3 : World) (hg : (((W0.alloc (.cells #[.int .i64 x.1, .string x.2] 72)).drew)).grownBy W3 (Value.slice A n cap).ownBlock) => (⟨(hg.block R (HR0.out.below HF1.out HR0.out.lt).lt (fun e => own_ne HO2.out (HR0.out.below HF1.out HR0.out.lt) (by decide) e.symm)).trans (HR0.out.below HF1.out HR0.out.lt), hg.block (w.heap.size + 1) (Nat.lt_of_lt_of_le HY.out.lt HF1.out.size) (fun e => by have := (HO.out.lt _ e.symm).2; omega) |>.trans (HY.out.below HF1.out HY.out.lt)⟩ : Blk W3 R 108 #[.int .i64 most, .slice A n cap, .int .i64 (F : Int)] ∧ Blk W3 (w.heap.size + 1) 72 #[.int .i64 0, .string ⟨#[]⟩]))
  have HKC := Lib.hid (fun (W3 : World) (hg : (((W0.alloc (.cells #[.int .i64 x.1, .string x.2] 72)).drew)).grownBy W3 (Value.slice A n cap).ownBlock) => (((Kc.of HB0.out hB).trans (Kc.of HF1.out (by have := HB0.out.size; omega))).grown HBW.out HO2.out (.inr rfl) hg : Kc PT B w W3))
  clear hW0 c0 c1
  refine wp_region_E [([10], fun w' => w'.cell? ⟨R, 1, none⟩ = some (.slice A n cap)), ([10], fun w' => w'.cell? ⟨w.heap.size, 0, none⟩ = some (.int .i64 x.1) ∧ w'.cell? ⟨w.heap.size, 1, none⟩ = some (.string x.2))] (by kernel_rfl) ⟨fun _ => (HC.out _ HF0.out).1, fun _ => (HC.out _ HF0.out).2, trivial⟩ (fun hHeld => ?_)
  refine wpAnyE_take (i := 0) (v := ?_) rfl (by kernel_rfl) (by kernel_rfl) (by kernel_rfl) (by kernel_rfl) (fun _ _ _ h => h) (Or.inl ⟨by rfl, ?_⟩) hHeld (fun hHeld => ?_)
  rotate_left
  · (intro w hSw; (try dsimp only at hSw); (try simp only [List.getElem_toArray, List.getElem_cons_succ, List.getElem_cons_zero]); go_simp; try with_reducible rfl)
  try simp only [List.getElem_toArray, List.getElem_cons_succ, List.getElem_cons_zero, Act.put, List.setIfInBounds_toArray, List.set_cons_zero, List.set_cons_succ]
  refine wpAnyE_take (i := 1) (v := ?_) rfl (by kernel_rfl) (by kernel_rfl) (by kernel_rfl) (by kernel_rfl) (fun _ _ _ h => h) (Or.inl ⟨by rfl, ?_⟩) hHeld (fun hHeld => ?_)
  rotate_left
  · (intro w hSw; (try dsimp only at hSw); (try simp only [List.getElem_toArray, List.getElem_cons_succ, List.getElem_cons_zero]); go_simp; try with_reducible rfl)
  try simp only [List.getElem_toArray, List.getElem_cons_succ, List.getElem_cons_zero, Act.put, List.setIfInBounds_toArray, List.set_cons_zero, List.set_cons_succ]
  refine wpAnyE_take (i := 2) (v := ?_) rfl (by kernel_rfl) (by kernel_rfl) (by kernel_rfl) (by kernel_rfl) (fun _ _ _ h => h) (Or.inl ⟨by rfl, ?_⟩) hHeld (fun hHeld => ?_)
  rotate_left
  · (intro w hSw; (try dsimp only at hSw); (try simp only [List.getElem_toArray, List.getElem_cons_succ, List.getElem_cons_zero]); go_simp; try with_reducible rfl)
  try simp only [List.getElem_toArray, List.getElem_cons_succ, List.getElem_cons_zero, Act.put, List.setIfInBounds_toArray, List.set_cons_zero, List.set_cons_succ]
  refine wpAnyE_take (i := 3) (v := ?_) rfl (by kernel_rfl) (by kernel_rfl) (by kernel_rfl) (by kernel_rfl) (fun _ _ _ h => h) (Or.inl ⟨by rfl, ?_⟩) hHeld (fun hHeld => ?_)
  rotate_left
  · (intro w hSw; (try dsimp only at hSw); (try simp only [List.getElem_toArray, List.getElem_cons_succ, List.getElem_cons_zero]); go_simp; try with_reducible rfl)
  try simp only [List.getElem_toArray, List.getElem_cons_succ, List.getElem_cons_zero, Act.put, List.setIfInBounds_toArray, List.set_cons_zero, List.set_cons_succ]
  refine wpAnyE_load (i := 4) _ _ (v := ?_) rfl (by kernel_rfl) List.mem_cons_self (by kernel_rfl) (by kernel_rfl) (by kernel_rfl) (by kernel_rfl) (fun _ _ _ h => h) (Or.inl ⟨by rfl, ?_⟩) hHeld (fun hHeld => ?_)
  rotate_left
  · (intro w hSw; (try dsimp only at hSw); (try simp only [List.getElem_toArray, List.getElem_cons_succ, List.getElem_cons_zero]); go_simp; try with_reducible rfl)
  try simp only [List.getElem_toArray, List.getElem_cons_succ, List.getElem_cons_zero, Act.put, List.setIfInBounds_toArray, List.set_cons_zero, List.set_cons_succ]
  refine wpAnyE_load (i := 5) _ _ (v := ?_) rfl (by kernel_rfl) (List.mem_cons_of_mem _ List.mem_cons_self) (by kernel_rfl) (by kernel_rfl) (by kernel_rfl) (by kernel_rfl) (fun _ _ _ h => h) (Or.inl ⟨by rfl, ?_⟩) hHeld (fun hHeld => ?_)
  rotate_left
  · (intro w hSw; (try dsimp only at hSw); (try simp only [List.getElem_toArray, List.getElem_cons_succ, List.getElem_cons_zero]); (try obtain ⟨hSw1, hSw2⟩ := hSw); go_simp; try with_reducible rfl)
  try simp only [List.getElem_toArray, List.getElem_cons_succ, List.getElem_cons_zero, Act.put, List.setIfInBounds_toArray, List.set_cons_zero, List.set_cons_succ]
  refine wpAnyE_ready (rs := [6]) (by kernel_rfl) (by simp) (AllE.cons rfl (fun K hK => ?_) AllE.nil)
  clear hHeld
  go_simp
  refine hK.out _ _ ⟨fun _ => (HC.out _ HF1.out).1, fun _ => (HC.out _ HF1.out).2, trivial⟩ (fun hHeld => ?_)
  clear hK K
  try simp only [List.getElem_toArray, List.getElem_cons_succ, List.getElem_cons_zero, Act.put, List.setIfInBounds_toArray, List.set_cons_zero, List.set_cons_succ]
  refine wpAnyE_ready (rs := [7]) (by kernel_rfl) (by simp) (AllE.cons rfl (fun K hK => ?_) AllE.nil)
  clear hHeld
  refine step_append_lies _ rfl (.tmp 20) (.tmp 22) 106 rfl B 72 i0 _ 2 24 Try.underlying106 hi hz0 hz1 hz2 rfl (by decide) _ n _ rfl HO2.out ⟨W0.heap.size, 0, none⟩ 1 1 [.int .i64 x.1, .string x.2] rfl rfl (World.news_of_block HN.out) (by simp [Value.oneCell']) (by decide) (by unfold maxLen; omega) (by omega) HBW.out _ rfl ?_
  intro g3 cap3 W3 hown hgr hor hg3
  have HO3 := Lib.hid hown
  have HG3 := Lib.hid hgr
  have HR3 := Lib.hid (HFAR.out W3 hgr).1
  have HY3 := Lib.hid (HFAR.out W3 hgr).2
  have HK3 := Lib.hid (HKC.out W3 hgr)
  have HNJ := Lib.hid (show Hi N R w W3 from fun j h1 h2 h3 => (hgr.block j (by have h4 := HB0.out.size; have h5 := HF1.out.size; omega) (fun e => by have := HNN.out j (by rw [HNL.out]; exact e.symm); omega)).trans ((HF1.out.block j (by have h4 := HB0.out.size; omega)).trans (HB0.out.block j h2)))
  have HGN := Lib.hid (show ∀ k, (Value.slice (some ⟨g3, 0, none⟩) (n + 1) cap3).ownBlock = some k → k < N ∨ w.heap.size ≤ k from fun k hk => by
    have hkg : g3 = k := by cases hk; rfl
    rcases hor with h | h
    · exact .inl (HNN.out k (by rw [HNL.out, ← hkg]; exact h))
    · have h1 := HF1.out.size; have h2 := hsz; exact .inr (by omega))
  have HG3N := Lib.hid (show g3 ≠ w.heap.size + 1 by
    rcases hor with h | h
    · have := (HO.out.lt _ h).2; omega
    · have h1 := HF1.out.size; have h2 := hsz; omega)
  have e1 : W3.cell? ⟨R, 1, none⟩ = some (.slice A n cap) := HR3.out.cell 1
  have f1 := HR3.out.frozen 1
  have HX3 := Lib.hid (show W3.cell? ⟨w.heap.size, 0, none⟩ = some (.int .i64 x.1) ∧ W3.cell? ⟨w.heap.size, 1, none⟩ = some (.string x.2) from by
    have hx : Blk W3 w.heap.size 72 #[.int .i64 x.1, .string x.2] := (hgr.block w.heap.size HX2.out.lt (fun e => by have := (HO.out.lt _ e.symm).2; omega)).trans HX2.out
    exact ⟨hx.cell 0, hx.cell 1⟩)
  clear hown hgr hor hg3
  refine hK.out _ _ ⟨fun _ => (by exact e1), fun _ => HX3.out, trivial⟩ (fun hHeld => ?_)
  clear hK K
  try simp only [List.getElem_toArray, List.getElem_cons_succ, List.getElem_cons_zero, Act.put, List.setIfInBounds_toArray, List.set_cons_zero, List.set_cons_succ]
  refine wpAnyE_take (i := 8) (v := ?_) rfl (by kernel_rfl) (by kernel_rfl) (by kernel_rfl) (by kernel_rfl) (fun _ _ _ h => h) (Or.inl ⟨by rfl, ?_⟩) hHeld (fun hHeld => ?_)
  rotate_left
  · (intro w hSw; (try dsimp only at hSw); (try simp only [List.getElem_toArray, List.getElem_cons_succ, List.getElem_cons_zero]); go_simp; try with_reducible rfl)
  try simp only [List.getElem_toArray, List.getElem_cons_succ, List.getElem_cons_zero, Act.put, List.setIfInBounds_toArray, List.set_cons_zero, List.set_cons_succ]
  refine wpAnyE_take (i := 9) (v := ?_) rfl (by kernel_rfl) (by kernel_rfl) (by kernel_rfl) (by kernel_rfl) (fun _ _ _ h => h) (Or.inl ⟨by rfl, ?_⟩) hHeld (fun hHeld => ?_)
  rotate_left
  · (intro w hSw; (try dsimp only at hSw); (try simp only [List.getElem_toArray, List.getElem_cons_succ, List.getElem_cons_zero]); go_simp; try with_reducible rfl)
  try simp only [List.getElem_toArray, List.getElem_cons_succ, List.getElem_cons_zero, Act.put, List.setIfInBounds_toArray, List.set_cons_zero, List.set_cons_succ]
  refine wpAnyE_ready (rs := [10]) (by kernel_rfl) (by simp) (AllE.cons rfl (fun K hK => ?_) AllE.nil)
  clear hHeld
  go_simp
  refine hK.out _ _ ⟨(fun e => absurd e (Bool.eq_false_iff.1 (by kernel_rfl))), (fun e => absurd e (Bool.eq_false_iff.1 (by kernel_rfl))), trivial⟩ (fun hHeld => ?_)
  clear hK K
  try simp only [List.getElem_toArray, List.getElem_cons_succ, List.getElem_cons_zero, Act.put, List.setIfInBounds_toArray, List.set_cons_zero, List.set_cons_succ]
  refine wpAnyE_done (by kernel_rfl) (only_normal ?_) _
  clear hHeld
  have HR4 := Lib.hid (HR3.out.set_ 1 (.slice (some ⟨g3, 0, none⟩) (n + 1) cap3))
  have HY4 := Lib.hid (HY3.out.far (p := ⟨R, 1, none⟩) (by show w.heap.size + 1 ≠ R; omega) (.slice (some ⟨g3, 0, none⟩) (n + 1) cap3))
  have HO4 := Lib.hid (own_keep HO3.out (w' := W3.setCell ⟨R, 1, none⟩ (.slice (some ⟨g3, 0, none⟩) (n + 1) cap3)) (fun j hj => Below.heap_setCell W3 ⟨R, 1, none⟩ _ j (fun e => own_ne HO3.out HR3.out (by decide) (by rw [hj]; exact congrArg some e))))
  have HK4 := Lib.hid (HK3.out.set HR3.out (.inl rfl) hR 1 (.slice (some ⟨g3, 0, none⟩) (n + 1) cap3))
  have y0 := HY4.out.cell 0
  have y1 := HY4.out.cell 1
  have z0 := HY4.out.frozen 0
  have z1 := HY4.out.frozen 1
  have HY5 := Lib.hid ((HY4.out.set_ 0 (.int .i64 0)).set_ 1 (.string ⟨#[]⟩))
  have HK5 := Lib.hid ((HK4.out.setNew hB (g := w.heap.size + 1) (by omega) 0 (.int .i64 0)).setNew hB (g := w.heap.size + 1) (by omega) 1 (.string ⟨#[]⟩))
  have HR5 := Lib.hid ((HR4.out.far (p := ⟨w.heap.size + 1, 0, none⟩) (by show R ≠ w.heap.size + 1; omega) (.int .i64 0)).far (p := ⟨w.heap.size + 1, 1, none⟩) (by show R ≠ w.heap.size + 1; omega) (.string ⟨#[]⟩))
  have HO5 := Lib.hid (own_keep HO4.out (w' := ((W3.setCell ⟨R, 1, none⟩ (.slice (some ⟨g3, 0, none⟩) (n + 1) cap3)).setCell ⟨w.heap.size + 1, 0, none⟩ (.int .i64 0)).setCell ⟨w.heap.size + 1, 1, none⟩ (.string ⟨#[]⟩)) (fun j hj => by
    have hne : j ≠ w.heap.size + 1 := fun e => HG3N.out (by cases hj; exact e)
    exact (Below.heap_setCell _ ⟨w.heap.size + 1, 1, none⟩ _ j hne).trans (Below.heap_setCell _ ⟨w.heap.size + 1, 0, none⟩ _ j hne)))
  go_wp2
  have H9 : RgM (((W3.setCell ⟨R, 1, none⟩ (.slice (some ⟨g3, 0, none⟩) (n + 1) cap3)).setCell ⟨w.heap.size + 1, 0, none⟩ (.int .i64 0)).setCell ⟨w.heap.size + 1, 1, none⟩ (.string ⟨#[]⟩)) B R most F (l ++ [x]) N w.heap.size := ⟨.slice (some ⟨g3, 0, none⟩) (n + 1) cap3, HR5.out, (by rw [List.length_append, chC_snoc, HNL.out]; exact HO5.out), hR, HGN.out⟩
  exact push_out rfl (g := w.heap.size + 1) rfl rfl HY5.out ⟨rfl, H9, HK5.out, fun j h1 h2 h3 => (Below.heap_setCell _ ⟨w.heap.size + 1, 1, none⟩ _ j (by show j ≠ w.heap.size + 1; omega)).trans ((Below.heap_setCell _ ⟨w.heap.size + 1, 0, none⟩ _ j (by show j ≠ w.heap.size + 1; omega)).trans ((Below.heap_setCell W3 ⟨R, 1, none⟩ _ j h3).trans (HNJ.out j h1 h2 h3)))⟩
theorem frozen_of {w w' : World} {b o : Nat} (h : w'.heap[b]? = w.heap[b]?) : w'.frozen? ⟨b, o, none⟩ = w.frozen? ⟨b, o, none⟩ := by unfold World.frozen?; rw [h]
set_option maxHeartbeats 8000000 in
theorem push_full {w : World} {B R : Nat} {most : Int} {F n : Nat} {l : List Chg} {N : Nat} (h : RgN w B R most F l N) (hnl : l.length = n) (hn : ¬ (n : Int) < most) (hs : n ≤ 1000000) (hF : F < n) (hB : B ≤ w.heap.size) (x y : Chg) (hy : l[F]? = some y) (G : Nat) (hG : (F + 1) % n = G) :
    Calls Try.prog 44 #[.pointer (some ⟨R, 0, none⟩), .agg #[.int .i64 x.1, .string x.2]] w fun e w' => e = .returned (.tuple #[.agg #[.int .i64 y.1, .string y.2], .bool true]) ∧ RgM w' B R most G (l.set F x) N w.heap.size ∧ Kc PT B w w' ∧ Hi N R w w' := by
  obtain ⟨v, hb, ho, hR, hN⟩ := h
  have HNN := Lib.hid hN
  clear hN
  obtain ⟨A, cap, bk, rfl, hcap, hA, hcl⟩ := own_ch ho
  obtain ⟨rfl, hbB, hbw⟩ := hA (by omega)
  rw [hnl] at hcap
  have hcF := hcl F y hy
  rw [hnl] at hb
  have HNL := Lib.hid hnl
  have hlt := hb.lt
  have HB := Lib.hid hb
  have HO := Lib.hid ho
  have c0 := hb.cell 0
  have c1 := hb.cell 1
  simp only [List.getElem?_toArray, List.getElem?_cons_zero, List.getElem?_cons_succ] at c0 c1
  have hRb : R ≠ bk := fun e => own_ne ho hb (by decide) (by rw [e]; rfl)
  have HRB := Lib.hid hRb
  have HCF := Lib.hid hcF
  have hFi : (F : Int) < (n : Int) := by omega
  have HPL := Lib.hid (fun (W : World) (A : Option Addr) (cap : Nat) (hW : Blk W R 108 #[.int .i64 most, .slice A n cap, .int .i64 (F : Int)]) => hG ▸ rg_place (i := 1) hW (by omega) hs hF (by omega))
  clear hb ho hnl hcl hcF hy hRb hG
  go_enter Try.func44, Try.ntmps44
  go_wp2
  go_quiet (fail)
  go_wp2_with fail
  obtain ⟨W0, hW0⟩ : ∃ W, (((w.alloc (.cells #[.int .i64 x.1, .string x.2] 72)).alloc (.cells #[.int .i64 0, .string ⟨#[]⟩] 72)).drewN nq) = W := ⟨_, rfl⟩
  have HB0 := Lib.hid (show Below w.heap.size w W0 from hW0 ▸ kx_drewN (((Below.refl _ w).alloc (Nat.le_refl _) _).alloc (by simp) _) nq)
  have HX := Lib.hid (show Blk W0 w.heap.size 72 #[.int .i64 x.1, .string x.2] from hW0 ▸ ((Blk.new w _ _).alloc _).drewN _)
  have HY := Lib.hid (show Blk W0 (w.heap.size + 1) 72 #[.int .i64 0, .string ⟨#[]⟩] from by
    have := (Blk.new (w.alloc (.cells #[.int .i64 x.1, .string x.2] 72)) 72 #[.int .i64 0, .string ⟨#[]⟩]).drewN nq
    rw [World.size_alloc] at this
    exact hW0 ▸ this)
  have HR0 := Lib.hid (HB.out.below HB0.out hlt)
  have HO0 := Lib.hid (own_keep HO.out (fun j hj => HB0.out.block j (HO.out.lt j hj).2))
  rw [hW0]
  have hsz : w.heap.size + 1 + 1 ≤ W0.heap.size := HY.out.lt
  have HRW := Lib.hid (show W0.cell? ⟨bk, F * 2, none⟩ = some (.int .i64 y.1) ∧ W0.cell? ⟨bk, F * 2 + 1, none⟩ = some (.string y.2) ∧ W0.frozen? ⟨bk, F * 2, none⟩ = false ∧ W0.frozen? ⟨bk, F * 2 + 1, none⟩ = false from ⟨by rw [HB0.out.cell (p := ⟨bk, _, none⟩) hbw]; exact HCF.out.1, by rw [HB0.out.cell (p := ⟨bk, _, none⟩) hbw]; exact HCF.out.2.1, by rw [HB0.out.frozen (p := ⟨bk, _, none⟩) hbw]; exact HCF.out.2.2.1, by rw [HB0.out.frozen (p := ⟨bk, _, none⟩) hbw]; exact HCF.out.2.2.2⟩)
  have HK0 := Lib.hid (show Kc PT B w W0 from Kc.of HB0.out hB)
  clear hW0 c0 c1
  have HY0 := Lib.hid HY.out.drew
  have y0 := HY0.out.cell 0
  have y1 := HY0.out.cell 1
  have z0 := HY0.out.frozen 0
  have z1 := HY0.out.frozen 1
  have yy0 := HY.out.cell 0
  have yy1 := HY.out.cell 1
  have zz0 := HY.out.frozen 0
  have zz1 := HY.out.frozen 1
  have HH := Lib.hid (show (W0.drew.cell? ⟨R, 1, none⟩ = some (.slice (some ⟨bk, 0, none⟩) n cap) ∧ W0.drew.cell? ⟨R, 2, none⟩ = some (.int .i64 (F : Int))) ∧ (W0.drew.cell? ⟨bk, F * 2, none⟩ = some (.int .i64 y.1) ∧ W0.drew.cell? ⟨bk, F * 2 + 1, none⟩ = some (.string y.2)) from ⟨⟨HR0.out.drew.cell 1, HR0.out.drew.cell 2⟩, HRW.out.1, HRW.out.2.1⟩)
  refine wp_region_E [([10], fun w' => w'.cell? ⟨R, 1, none⟩ = some (.slice (some ⟨bk, 0, none⟩) n cap)), ([10], fun w' => w'.cell? ⟨R, 2, none⟩ = some (.int .i64 (F : Int))), ([10], fun w' => w'.cell? ⟨bk, F * 2, none⟩ = some (.int .i64 y.1) ∧ w'.cell? ⟨bk, F * 2 + 1, none⟩ = some (.string y.2))] (by kernel_rfl) ⟨fun _ => HH.out.1.1, fun _ => HH.out.1.2, fun _ => HH.out.2, trivial⟩ (fun hHeld => ?_)
  refine wpAnyE_take (i := 0) (v := ?_) rfl (by kernel_rfl) (by kernel_rfl) (by kernel_rfl) (by kernel_rfl) (fun _ _ _ h => h) (Or.inl ⟨by rfl, ?_⟩) hHeld (fun hHeld => ?_)
  rotate_left
  · (intro w hSw; (try dsimp only at hSw); (try simp only [List.getElem_toArray, List.getElem_cons_succ, List.getElem_cons_zero]); go_simp; try with_reducible rfl)
  try simp only [List.getElem_toArray, List.getElem_cons_succ, List.getElem_cons_zero, Act.put, List.setIfInBounds_toArray, List.set_cons_zero, List.set_cons_succ]
  refine wpAnyE_take (i := 1) (v := ?_) rfl (by kernel_rfl) (by kernel_rfl) (by kernel_rfl) (by kernel_rfl) (fun _ _ _ h => h) (Or.inl ⟨by rfl, ?_⟩) hHeld (fun hHeld => ?_)
  rotate_left
  · (intro w hSw; (try dsimp only at hSw); (try simp only [List.getElem_toArray, List.getElem_cons_succ, List.getElem_cons_zero]); go_simp; try with_reducible rfl)
  try simp only [List.getElem_toArray, List.getElem_cons_succ, List.getElem_cons_zero, Act.put, List.setIfInBounds_toArray, List.set_cons_zero, List.set_cons_succ]
  refine wpAnyE_take (i := 2) (v := ?_) rfl (by kernel_rfl) (by kernel_rfl) (by kernel_rfl) (by kernel_rfl) (fun _ _ _ h => h) (Or.inl ⟨by rfl, ?_⟩) hHeld (fun hHeld => ?_)
  rotate_left
  · (intro w hSw; (try dsimp only at hSw); (try simp only [List.getElem_toArray, List.getElem_cons_succ, List.getElem_cons_zero]); go_simp; try with_reducible rfl)
  try simp only [List.getElem_toArray, List.getElem_cons_succ, List.getElem_cons_zero, Act.put, List.setIfInBounds_toArray, List.set_cons_zero, List.set_cons_succ]
  refine wpAnyE_load (i := 3) _ _ (v := ?_) rfl (by kernel_rfl) List.mem_cons_self (by kernel_rfl) (by kernel_rfl) (by kernel_rfl) (by kernel_rfl) (fun _ _ _ h => h) (Or.inl ⟨by rfl, ?_⟩) hHeld (fun hHeld => ?_)
  rotate_left
  · (intro w hSw; (try dsimp only at hSw); (try simp only [List.getElem_toArray, List.getElem_cons_succ, List.getElem_cons_zero]); go_simp; try with_reducible rfl)
  try simp only [List.getElem_toArray, List.getElem_cons_succ, List.getElem_cons_zero, Act.put, List.setIfInBounds_toArray, List.set_cons_zero, List.set_cons_succ]
  refine wpAnyE_take (i := 4) (v := ?_) rfl (by kernel_rfl) (by kernel_rfl) (by kernel_rfl) (by kernel_rfl) (fun _ _ _ h => h) (Or.inl ⟨by rfl, ?_⟩) hHeld (fun hHeld => ?_)
  rotate_left
  · (intro w hSw; (try dsimp only at hSw); (try simp only [List.getElem_toArray, List.getElem_cons_succ, List.getElem_cons_zero]); go_simp; try with_reducible rfl)
  try simp only [List.getElem_toArray, List.getElem_cons_succ, List.getElem_cons_zero, Act.put, List.setIfInBounds_toArray, List.set_cons_zero, List.set_cons_succ]
  refine wpAnyE_take (i := 5) (v := ?_) rfl (by kernel_rfl) (by kernel_rfl) (by kernel_rfl) (by kernel_rfl) (fun _ _ _ h => h) (Or.inl ⟨by rfl, ?_⟩) hHeld (fun hHeld => ?_)
  rotate_left
  · (intro w hSw; (try dsimp only at hSw); (try simp only [List.getElem_toArray, List.getElem_cons_succ, List.getElem_cons_zero]); go_simp; try with_reducible rfl)
  try simp only [List.getElem_toArray, List.getElem_cons_succ, List.getElem_cons_zero, Act.put, List.setIfInBounds_toArray, List.set_cons_zero, List.set_cons_succ]
  refine wpAnyE_take (i := 6) (v := ?_) rfl (by kernel_rfl) (by kernel_rfl) (by kernel_rfl) (by kernel_rfl) (fun _ _ _ h => h) (Or.inl ⟨by rfl, ?_⟩) hHeld (fun hHeld => ?_)
  rotate_left
  · (intro w hSw; (try dsimp only at hSw); (try simp only [List.getElem_toArray, List.getElem_cons_succ, List.getElem_cons_zero]); go_simp; try with_reducible rfl)
  try simp only [List.getElem_toArray, List.getElem_cons_succ, List.getElem_cons_zero, Act.put, List.setIfInBounds_toArray, List.set_cons_zero, List.set_cons_succ]
  refine wpAnyE_load (i := 7) _ _ (v := ?_) rfl (by kernel_rfl) (List.mem_cons_of_mem _ List.mem_cons_self) (by kernel_rfl) (by kernel_rfl) (by kernel_rfl) (by kernel_rfl) (fun _ _ _ h => h) (Or.inl ⟨by rfl, ?_⟩) hHeld (fun hHeld => ?_)
  rotate_left
  · (intro w hSw; (try dsimp only at hSw); (try simp only [List.getElem_toArray, List.getElem_cons_succ, List.getElem_cons_zero]); go_simp; try with_reducible rfl)
  try simp only [List.getElem_toArray, List.getElem_cons_succ, List.getElem_cons_zero, Act.put, List.setIfInBounds_toArray, List.set_cons_zero, List.set_cons_succ]
  refine wpAnyE_take (i := 8) (v := ?_) rfl (by kernel_rfl) (by kernel_rfl) (by kernel_rfl) (by kernel_rfl) (fun _ _ _ h => h) (Or.inl ⟨by rfl, ?_⟩) hHeld (fun hHeld => ?_)
  rotate_left
  · (intro w hSw; (try dsimp only at hSw); (try simp only [List.getElem_toArray, List.getElem_cons_succ, List.getElem_cons_zero]); go_simp; try with_reducible rfl)
  try simp only [List.getElem_toArray, List.getElem_cons_succ, List.getElem_cons_zero, Act.put, List.setIfInBounds_toArray, List.set_cons_zero, List.set_cons_succ]
  refine wpAnyE_load (i := 9) _ _ (v := ?_) rfl (by kernel_rfl) (List.mem_cons_of_mem _ (List.mem_cons_of_mem _ List.mem_cons_self)) (by kernel_rfl) (by kernel_rfl) (by kernel_rfl) (by kernel_rfl) (fun _ _ _ h => h) (Or.inl ⟨by rfl, ?_⟩) hHeld (fun hHeld => ?_)
  rotate_left
  · (intro w hSw; (try dsimp only at hSw); (try simp only [List.getElem_toArray, List.getElem_cons_succ, List.getElem_cons_zero]); (try obtain ⟨hSw1, hSw2⟩ := hSw); go_simp; try with_reducible rfl)
  try simp only [List.getElem_toArray, List.getElem_cons_succ, List.getElem_cons_zero, Act.put, List.setIfInBounds_toArray, List.set_cons_zero, List.set_cons_succ]
  refine wpAnyE_ready (rs := [10]) (by kernel_rfl) (by simp) (AllE.cons rfl (fun K hK => ?_) AllE.nil)
  clear hHeld
  go_simp
  refine hK.out _ _ ⟨(fun e => absurd e (Bool.eq_false_iff.1 (by kernel_rfl))), (fun e => absurd e (Bool.eq_false_iff.1 (by kernel_rfl))), (fun e => absurd e (Bool.eq_false_iff.1 (by kernel_rfl))), trivial⟩ (fun hHeld => ?_)
  clear hK K
  try simp only [List.getElem_toArray, List.getElem_cons_succ, List.getElem_cons_zero, Act.put, List.setIfInBounds_toArray, List.set_cons_zero, List.set_cons_succ]
  refine wpAnyE_done (by kernel_rfl) (only_normal ?_) _
  clear hHeld HH y0 y1 z0 z1 yy0 yy1 zz0 zz1
  have HY1 := Lib.hid ((HY0.out.set_ 0 (.int .i64 y.1)).set_ 1 (.string y.2))
  obtain ⟨W1, hW1⟩ : ∃ W, ((W0.setCell ⟨w.heap.size + 1, 0, none⟩ (.int .i64 y.1)).setCell ⟨w.heap.size + 1, 1, none⟩ (.string y.2)).drew = W := ⟨_, rfl⟩
  have HFB := Lib.hid (show ∀ j, j ≠ w.heap.size + 1 → W1.heap[j]? = W0.heap[j]? from fun j hj => by rw [← hW1]; exact (Below.heap_setCell _ ⟨w.heap.size + 1, 1, none⟩ _ j hj).trans (Below.heap_setCell _ ⟨w.heap.size + 1, 0, none⟩ _ j hj))
  have HY1 := Lib.hid (show Blk W1 (w.heap.size + 1) 72 #[.int .i64 y.1, .string y.2] from hW1 ▸ HY1.out)
  have HK1 := Lib.hid (show Kc PT B w W1 from hW1 ▸ ((HK0.out.setNew hB (g := w.heap.size + 1) (by omega) 0 (.int .i64 y.1)).setNew hB (g := w.heap.size + 1) (by omega) 1 (.string y.2)).drew)
  have HR1 := Lib.hid (show Blk W1 R 108 #[.int .i64 most, .slice (some ⟨bk, 0, none⟩) n cap, .int .i64 (F : Int)] from (HFB.out R (by omega)).trans HR0.out)
  have HX1 := Lib.hid (show Blk W1 w.heap.size 72 #[.int .i64 x.1, .string x.2] from (HFB.out _ (by omega)).trans HX.out)
  have HO1 := Lib.hid (own_keep HO0.out (w' := W1) (fun j hj => HFB.out j (by have h1 := (HO.out.lt j hj).2; omega)))
  go_wp2_with fail
  try rw [hW1]
  have hbk : bk ≠ w.heap.size + 1 := by omega
  have HRW1 := Lib.hid (show W1.drew.cell? ⟨bk, F * 2, none⟩ = some (.int .i64 y.1) ∧ W1.drew.cell? ⟨bk, F * 2 + 1, none⟩ = some (.string y.2) ∧ W1.drew.frozen? ⟨bk, F * 2, none⟩ = false ∧ W1.drew.frozen? ⟨bk, F * 2 + 1, none⟩ = false from by
    have e := HFB.out bk hbk
    exact ⟨(World.cell?_of_block (a := ⟨bk, _, none⟩) e).trans HRW.out.1, (World.cell?_of_block (a := ⟨bk, _, none⟩) e).trans HRW.out.2.1, (frozen_of e).trans HRW.out.2.2.1, (frozen_of e).trans HRW.out.2.2.2⟩)
  have y0 := HRW1.out.1
  have y1 := HRW1.out.2.1
  have z0 := HRW1.out.2.2.1
  have z1 := HRW1.out.2.2.2
  have yy0 : W1.cell? ⟨bk, F * 2, none⟩ = _ := HRW1.out.1
  have yy1 : W1.cell? ⟨bk, F * 2 + 1, none⟩ = _ := HRW1.out.2.1
  have zz0 : W1.frozen? ⟨bk, F * 2, none⟩ = _ := HRW1.out.2.2.1
  have zz1 : W1.frozen? ⟨bk, F * 2 + 1, none⟩ = _ := HRW1.out.2.2.2
  have HH := Lib.hid (show (W1.drew.cell? ⟨R, 1, none⟩ = some (.slice (some ⟨bk, 0, none⟩) n cap) ∧ W1.drew.cell? ⟨R, 2, none⟩ = some (.int .i64 (F : Int))) ∧ (W1.drew.cell? ⟨w.heap.size, 0, none⟩ = some (.int .i64 x.1) ∧ W1.drew.cell? ⟨w.heap.size, 1, none⟩ = some (.string x.2)) from ⟨⟨HR1.out.drew.cell 1, HR1.out.drew.cell 2⟩, HX1.out.drew.cell 0, HX1.out.drew.cell 1⟩)
  clear hW1
  refine wp_region_E [([10], fun w' => w'.cell? ⟨R, 1, none⟩ = some (.slice (some ⟨bk, 0, none⟩) n cap)), ([10], fun w' => w'.cell? ⟨R, 2, none⟩ = some (.int .i64 (F : Int))), ([10], fun w' => w'.cell? ⟨w.heap.size, 0, none⟩ = some (.int .i64 x.1) ∧ w'.cell? ⟨w.heap.size, 1, none⟩ = some (.string x.2))] (by kernel_rfl) ⟨fun _ => HH.out.1.1, fun _ => HH.out.1.2, fun _ => HH.out.2, trivial⟩ (fun hHeld => ?_)
  refine wpAnyE_take (i := 0) (v := ?_) rfl (by kernel_rfl) (by kernel_rfl) (by kernel_rfl) (by kernel_rfl) (fun _ _ _ h => h) (Or.inl ⟨by rfl, ?_⟩) hHeld (fun hHeld => ?_)
  rotate_left
  · (intro w hSw; (try dsimp only at hSw); (try simp only [List.getElem_toArray, List.getElem_cons_succ, List.getElem_cons_zero]); go_simp; try with_reducible rfl)
  try simp only [List.getElem_toArray, List.getElem_cons_succ, List.getElem_cons_zero, Act.put, List.setIfInBounds_toArray, List.set_cons_zero, List.set_cons_succ]
  refine wpAnyE_take (i := 1) (v := ?_) rfl (by kernel_rfl) (by kernel_rfl) (by kernel_rfl) (by kernel_rfl) (fun _ _ _ h => h) (Or.inl ⟨by rfl, ?_⟩) hHeld (fun hHeld => ?_)
  rotate_left
  · (intro w hSw; (try dsimp only at hSw); (try simp only [List.getElem_toArray, List.getElem_cons_succ, List.getElem_cons_zero]); go_simp; try with_reducible rfl)
  try simp only [List.getElem_toArray, List.getElem_cons_succ, List.getElem_cons_zero, Act.put, List.setIfInBounds_toArray, List.set_cons_zero, List.set_cons_succ]
  refine wpAnyE_take (i := 2) (v := ?_) rfl (by kernel_rfl) (by kernel_rfl) (by kernel_rfl) (by kernel_rfl) (fun _ _ _ h => h) (Or.inl ⟨by rfl, ?_⟩) hHeld (fun hHeld => ?_)
  rotate_left
  · (intro w hSw; (try dsimp only at hSw); (try simp only [List.getElem_toArray, List.getElem_cons_succ, List.getElem_cons_zero]); go_simp; try with_reducible rfl)
  try simp only [List.getElem_toArray, List.getElem_cons_succ, List.getElem_cons_zero, Act.put, List.setIfInBounds_toArray, List.set_cons_zero, List.set_cons_succ]
  refine wpAnyE_load (i := 3) _ _ (v := ?_) rfl (by kernel_rfl) List.mem_cons_self (by kernel_rfl) (by kernel_rfl) (by kernel_rfl) (by kernel_rfl) (fun _ _ _ h => h) (Or.inl ⟨by rfl, ?_⟩) hHeld (fun hHeld => ?_)
  rotate_left
  · (intro w hSw; (try dsimp only at hSw); (try simp only [List.getElem_toArray, List.getElem_cons_succ, List.getElem_cons_zero]); go_simp; try with_reducible rfl)
  try simp only [List.getElem_toArray, List.getElem_cons_succ, List.getElem_cons_zero, Act.put, List.setIfInBounds_toArray, List.set_cons_zero, List.set_cons_succ]
  refine wpAnyE_take (i := 4) (v := ?_) rfl (by kernel_rfl) (by kernel_rfl) (by kernel_rfl) (by kernel_rfl) (fun _ _ _ h => h) (Or.inl ⟨by rfl, ?_⟩) hHeld (fun hHeld => ?_)
  rotate_left
  · (intro w hSw; (try dsimp only at hSw); (try simp only [List.getElem_toArray, List.getElem_cons_succ, List.getElem_cons_zero]); go_simp; try with_reducible rfl)
  try simp only [List.getElem_toArray, List.getElem_cons_succ, List.getElem_cons_zero, Act.put, List.setIfInBounds_toArray, List.set_cons_zero, List.set_cons_succ]
  refine wpAnyE_take (i := 5) (v := ?_) rfl (by kernel_rfl) (by kernel_rfl) (by kernel_rfl) (by kernel_rfl) (fun _ _ _ h => h) (Or.inl ⟨by rfl, ?_⟩) hHeld (fun hHeld => ?_)
  rotate_left
  · (intro w hSw; (try dsimp only at hSw); (try simp only [List.getElem_toArray, List.getElem_cons_succ, List.getElem_cons_zero]); go_simp; try with_reducible rfl)
  try simp only [List.getElem_toArray, List.getElem_cons_succ, List.getElem_cons_zero, Act.put, List.setIfInBounds_toArray, List.set_cons_zero, List.set_cons_succ]
  refine wpAnyE_take (i := 6) (v := ?_) rfl (by kernel_rfl) (by kernel_rfl) (by kernel_rfl) (by kernel_rfl) (fun _ _ _ h => h) (Or.inl ⟨by rfl, ?_⟩) hHeld (fun hHeld => ?_)
  rotate_left
  · (intro w hSw; (try dsimp only at hSw); (try simp only [List.getElem_toArray, List.getElem_cons_succ, List.getElem_cons_zero]); go_simp; try with_reducible rfl)
  try simp only [List.getElem_toArray, List.getElem_cons_succ, List.getElem_cons_zero, Act.put, List.setIfInBounds_toArray, List.set_cons_zero, List.set_cons_succ]
  refine wpAnyE_load (i := 7) _ _ (v := ?_) rfl (by kernel_rfl) (List.mem_cons_of_mem _ List.mem_cons_self) (by kernel_rfl) (by kernel_rfl) (by kernel_rfl) (by kernel_rfl) (fun _ _ _ h => h) (Or.inl ⟨by rfl, ?_⟩) hHeld (fun hHeld => ?_)
  rotate_left
  · (intro w hSw; (try dsimp only at hSw); (try simp only [List.getElem_toArray, List.getElem_cons_succ, List.getElem_cons_zero]); go_simp; try with_reducible rfl)
  try simp only [List.getElem_toArray, List.getElem_cons_succ, List.getElem_cons_zero, Act.put, List.setIfInBounds_toArray, List.set_cons_zero, List.set_cons_succ]
  refine wpAnyE_load (i := 8) _ _ (v := ?_) rfl (by kernel_rfl) (List.mem_cons_of_mem _ (List.mem_cons_of_mem _ List.mem_cons_self)) (by kernel_rfl) (by kernel_rfl) (by kernel_rfl) (by kernel_rfl) (fun _ _ _ h => h) (Or.inl ⟨by rfl, ?_⟩) hHeld (fun hHeld => ?_)
  rotate_left
  · (intro w hSw; (try dsimp only at hSw); (try simp only [List.getElem_toArray, List.getElem_cons_succ, List.getElem_cons_zero]); (try obtain ⟨hSw1, hSw2⟩ := hSw); go_simp; try with_reducible rfl)
  try simp only [List.getElem_toArray, List.getElem_cons_succ, List.getElem_cons_zero, Act.put, List.setIfInBounds_toArray, List.set_cons_zero, List.set_cons_succ]
  refine wpAnyE_take (i := 9) (v := ?_) rfl (by kernel_rfl) (by kernel_rfl) (by kernel_rfl) (by kernel_rfl) (fun _ _ _ h => h) (Or.inl ⟨by rfl, ?_⟩) hHeld (fun hHeld => ?_)
  rotate_left
  · (intro w hSw; (try dsimp only at hSw); (try simp only [List.getElem_toArray, List.getElem_cons_succ, List.getElem_cons_zero]); go_simp; try with_reducible rfl)
  try simp only [List.getElem_toArray, List.getElem_cons_succ, List.getElem_cons_zero, Act.put, List.setIfInBounds_toArray, List.set_cons_zero, List.set_cons_succ]
  refine wpAnyE_ready (rs := [10]) (by kernel_rfl) (by simp) (AllE.cons rfl (fun K hK => ?_) AllE.nil)
  clear hHeld
  go_simp
  refine hK.out _ _ ⟨(fun e => absurd e (Bool.eq_false_iff.1 (by kernel_rfl))), (fun e => absurd e (Bool.eq_false_iff.1 (by kernel_rfl))), (fun e => absurd e (Bool.eq_false_iff.1 (by kernel_rfl))), trivial⟩ (fun hHeld => ?_)
  clear hK K
  try simp only [List.getElem_toArray, List.getElem_cons_succ, List.getElem_cons_zero, Act.put, List.setIfInBounds_toArray, List.set_cons_zero, List.set_cons_succ]
  refine wpAnyE_done (by kernel_rfl) (only_normal ?_) _
  clear hHeld HH y0 y1 z0 z1 yy0 yy1 zz0 zz1
  obtain ⟨W2, hW2⟩ : ∃ W, ((W1.setCell ⟨bk, F * 2, none⟩ (.int .i64 x.1)).setCell ⟨bk, F * 2 + 1, none⟩ (.string x.2)).drew = W := ⟨_, rfl⟩
  have HFB2 := Lib.hid (show ∀ j, j ≠ bk → W2.heap[j]? = W1.heap[j]? from fun j hj => by rw [← hW2]; exact (Below.heap_setCell _ ⟨bk, F * 2 + 1, none⟩ _ j hj).trans (Below.heap_setCell _ ⟨bk, F * 2, none⟩ _ j hj))
  have HO2 := Lib.hid (show W2.ownsRow B 72 2 (.slice (some ⟨bk, 0, none⟩) l.length cap) l.length (chC (l.set F x)) from hW2 ▸ own_keep (own_set HO1.out F (by have := HNL.out; omega) x) (fun j hj => rfl))
  have HK2 := Lib.hid (show Kc PT B w W2 from by
    obtain ⟨h0, h3 | ⟨b', cap', cur, e1, e2, e3, e4⟩⟩ := HO1.out
    · exact absurd h3.2 (by have := HNL.out; omega)
    · cases e1
      have hB1 : Blk W1 bk 72 cur := e3
      exact hW2 ▸ ((HK1.out.set hB1 (.inr rfl) hbB (F * 2) (.int .i64 x.1)).set (hB1.set_ (F * 2) (.int .i64 x.1)) (.inr rfl) hbB (F * 2 + 1) (.string x.2)).drew)
  have HR2 := Lib.hid (show Blk W2 R 108 #[.int .i64 most, .slice (some ⟨bk, 0, none⟩) n cap, .int .i64 (F : Int)] from (HFB2.out R HRB.out).trans HR1.out)
  have HY2 := Lib.hid (show Blk W2 (w.heap.size + 1) 72 #[.int .i64 y.1, .string y.2] from (HFB2.out _ (fun e => hbk e.symm)).trans HY1.out)
  go_wp2_with fail
  try rw [hW2]
  clear hW2
  refine (HPL.out _ _ _ HR2.out).mono ?_
  rintro _ w3 ⟨rfl, nq3, rfl⟩
  have HR3 := Lib.hid (HR2.out.drewN nq3)
  have e2 := HR3.out.cell 2
  have f2 := HR3.out.frozen 2
  simp only [List.getElem?_toArray, List.getElem?_cons_zero, List.getElem?_cons_succ] at e2
  have HR4 := Lib.hid (HR3.out.set_ 2 (.int .i64 (G : Int)))
  have HY4 := Lib.hid ((HY2.out.drewN nq3).far (p := ⟨R, 2, none⟩) (by show w.heap.size + 1 ≠ R; omega) (.int .i64 (G : Int)))
  have y0 := HY4.out.cell 0
  have y1 := HY4.out.cell 1
  have z0 := HY4.out.frozen 0
  have z1 := HY4.out.frozen 1
  have HY5 := Lib.hid ((HY4.out.set_ 0 (.int .i64 y.1)).set_ 1 (.string y.2))
  have HK5 := Lib.hid (((HK2.out.drewN nq3).set HR3.out (.inl rfl) hR 2 (.int .i64 (G : Int))).setNew hB (g := w.heap.size + 1) (by omega) 0 (.int .i64 y.1) |>.setNew hB (g := w.heap.size + 1) (by omega) 1 (.string y.2))
  have HR5 := Lib.hid ((HR4.out.far (p := ⟨w.heap.size + 1, 0, none⟩) (by show R ≠ w.heap.size + 1; omega) (.int .i64 y.1)).far (p := ⟨w.heap.size + 1, 1, none⟩) (by show R ≠ w.heap.size + 1; omega) (.string y.2))
  have HO5 := Lib.hid (own_keep HO2.out (w' := (((W2.drewN nq3).setCell ⟨R, 2, none⟩ (.int .i64 (G : Int))).setCell ⟨w.heap.size + 1, 0, none⟩ (.int .i64 y.1)).setCell ⟨w.heap.size + 1, 1, none⟩ (.string y.2)) (fun j hj => by
    cases hj
    exact (Below.heap_setCell _ ⟨w.heap.size + 1, 1, none⟩ _ bk hbk).trans ((Below.heap_setCell _ ⟨w.heap.size + 1, 0, none⟩ _ bk hbk).trans (Below.heap_setCell (W2.drewN nq3) ⟨R, 2, none⟩ _ bk (fun e => HRB.out e.symm)))))
  go_wp2
  have H9 : RgM ((((W2.drewN nq3).setCell ⟨R, 2, none⟩ (.int .i64 (G : Int))).setCell ⟨w.heap.size + 1, 0, none⟩ (.int .i64 y.1)).setCell ⟨w.heap.size + 1, 1, none⟩ (.string y.2)) B R most G (l.set F x) N w.heap.size := ⟨.slice (some ⟨bk, 0, none⟩) n cap, HR5.out, (by have := HO5.out; rw [HNL.out] at this; rw [List.length_set, HNL.out]; exact this), hR, fun k hk => .inl (HNN.out k hk)⟩
  exact push_out rfl (g := w.heap.size + 1) rfl rfl HY5.out ⟨rfl, H9, HK5.out, fun j h1 h2 h3 => (Below.heap_setCell _ ⟨w.heap.size + 1, 1, none⟩ _ j (by show j ≠ w.heap.size + 1; omega)).trans ((Below.heap_setCell _ ⟨w.heap.size + 1, 0, none⟩ _ j (by show j ≠ w.heap.size + 1; omega)).trans ((Below.heap_setCell (W2.drewN nq3) ⟨R, 2, none⟩ _ j h3).trans ((HFB2.out j (fun e => by have := HNN.out bk rfl; omega)).trans ((HFB.out j (by omega)).trans (HB0.out.block j h2)))))⟩
end Go.Proofs.Ythcjbljkokflgaa
