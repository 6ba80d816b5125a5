/- What the listed variables give the walks: utf8's two tables, the table of powers of ten; and that the program's own start meets the condition. -/
import Derived.Test.YtphijnkiiokieaaGreatDoorZx
import Derived.Test.YtphijnkiiokieaaGreatDoorZp
import Derived.Deep.AppendLies
import Derived.Test.YtphijnkiiokieaaGreatDoorZj
import Derived.Handed
import Derived.HandedShaped
import Derived.Shelf.Vars
import Derived.KernelRfl
import Derived.Test.YtphijnkiiokieaaGreatDoorRows
import Derived.Test.YtphijnkiiokieaaGreatDoorZm
import Derived.LaidMore
import Derived.PinnedBridge
import Derived.Lay
import Derived.Lib.LaidIn
import Derived.Lib.LaidTab
import Derived.Lib.LaidU8T
import Derived.MakeChecks
import Derived.Stop.Joined
import Derived.Stop.LaidErr
/- ReqNames: one op of a batch. -/
namespace Go.Proofs.YtphijnkiiokieaaGreatDoor
open Go.RowKit
open Go.Lib hiding intOf
set_option linter.unusedVariables false
set_option linter.unusedSimpArgs false
set_option maxRecDepth 100000
theorem tmod_nat (a : Int) (h : 0 ≤ a) (n : Nat) (hn : 0 < n) : ∃ J : Nat, a.tmod (n : Int) = (J : Int) ∧ J < n := by
  obtain ⟨k, rfl⟩ := Int.eq_ofNat_of_zero_le h
  exact ⟨k % n, rfl, Nat.mod_lt _ hn⟩
theorem low255 (v : Int) : 0 ≤ bits .and .i64 v 255 := by
  have e : bits .and .i64 v 255 = v % 256 := i64_low v 8 (by omega)
  rw [e]
  exact Int.emod_nonneg _ (by decide)
/-- The request in its box, its ops a row of the call's own. -/
structure Nb (w0 wr : World) (X : Nat) (v : Value) (xs : List Opn) : Prop where
  bx : Blk wr X 26 #[.int .i64 7, .string ⟨#[]⟩, .string ⟨#[104, 111, 109, 101]⟩, .string ⟨#[]⟩, .string ⟨#[]⟩, .int .i64 0, .int .i64 0, v, .int .i64 0, .int .i64 0, .int .i64 0]
  ow : wr.ownsRow (X + 1) 43 5 v xs.length (opsC xs)
  bel : Below w0.heap.size w0 wr
  hX : w0.heap.size ≤ X
theorem Nb.keep {w0 wr w' : World} {X : Nat} {v : Value} {xs : List Opn} (h : Nb w0 wr X v xs) (hb : Below wr.heap.size wr w') : Nb w0 w' X v xs := by
  refine ⟨h.bx.below hb h.bx.lt, ?_, h.bel.trans (hb.mono h.bel.size), h.hX⟩
  obtain ⟨h0, h3 | ⟨b, cap, cur, e1, e2, e3, e4⟩⟩ := h.ow
  · exact ⟨h0, .inl h3⟩
  · exact ⟨h0, .inr ⟨b, cap, cur, e1, e2, (hb.block b (Blk.lt e3)).trans e3, e4⟩⟩
theorem Nb.ne {w0 wr : World} {X : Nat} {v : Value} {xs : List Opn} (h : Nb w0 wr X v xs) : some X ≠ v.ownBlock := fun e => by
  have := (h.ow.lt X e.symm).1
  omega
/-- One more op. -/
theorem Nb.push {w0 wr w' : World} {X : Nat} {v v' : Value} {xs : List Opn} {o : Opn} (h : Nb w0 wr X v xs) (h1 : w'.ownsRow (X + 1) 43 5 v' (xs.length + 1) (opsC xs ++ opC o)) (hg : wr.grownBy w' v.ownBlock) (hl : v'.ownBlock ≠ some X) :
    Blk w' X 26 #[.int .i64 7, .string ⟨#[]⟩, .string ⟨#[104, 111, 109, 101]⟩, .string ⟨#[]⟩, .string ⟨#[]⟩, .int .i64 0, .int .i64 0, v, .int .i64 0, .int .i64 0, .int .i64 0] ∧ Nb w0 (w'.setCell ⟨X, 7, none⟩ v') X v' (xs ++ [o]) := by
  have hb : Blk w' X 26 #[.int .i64 7, .string ⟨#[]⟩, .string ⟨#[104, 111, 109, 101]⟩, .string ⟨#[]⟩, .string ⟨#[]⟩, .int .i64 0, .int .i64 0, v, .int .i64 0, .int .i64 0, .int .i64 0] := h.bx.grown hg h.ne
  have hB : Below w0.heap.size w0 w' := ⟨hg.os.trans h.bel.os, hg.tape.trans h.bel.tape, hg.output.trans h.bel.output, Nat.le_trans h.bel.size hg.size, fun j hj => (hg.block j (Nat.lt_of_lt_of_le hj h.bel.size) (fun e => by have := (h.ow.lt j e.symm).1; have := h.hX; omega)).trans (h.bel.block j hj)⟩
  refine ⟨hb, ⟨hb.set_ 7 v', ?_, hB.setCell (p := ⟨X, 7, none⟩) h.hX _, h.hX⟩⟩
  rw [List.length_append, opsC_snoc]
  obtain ⟨h0, h3 | ⟨b, cap, cur, e1, e2, e3, e4⟩⟩ := h1
  · exact ⟨h0, .inl h3⟩
  · exact ⟨h0, .inr ⟨b, cap, cur, e1, e2, (Below.heap_setCell w' ⟨X, 7, none⟩ v' b (fun e => hl (by rw [e1]; show some b = _; rw [e]))).trans e3, e4⟩⟩
/-- The ops' own row, cell by cell. -/
structure Orw (w : World) (g cap : Nat) (xs : List Opn) : Prop where
  row : ∃ cur : Array Value, Blk w g 43 cur ∧ ∀ j o, xs[j]? = some o → ∀ i, i < 5 → cur[j * 5 + i]? = (opC o)[i]?
  le : xs.length ≤ cap
theorem orw_of {w : World} {B n cap : Nat} {A : Option Addr} {xs : List Opn} (h : w.ownsRow B 43 5 (.slice A n cap) n (opsC xs)) (hn : xs.length = n) (h0 : 0 < n) : ∃ g, A = some ⟨g, 0, none⟩ ∧ B ≤ g ∧ Orw w g cap xs := by
  obtain ⟨_, ⟨h3, h4⟩ | ⟨b, c, cur, e1, e2, e3, e4, e5, e6, e7⟩⟩ := h
  · omega
  · cases e1
    refine ⟨b, rfl, e2, ⟨cur, e3, fun j o ho i hi => ?_⟩, by omega⟩
    have hj := (List.getElem?_eq_some_iff.1 ho).1
    rw [← opsC_get xs j o ho i hi, ← e7, List.getElem?_take, if_pos (by omega), Array.getElem?_toList]
theorem Orw.below {w w' : World} {g cap : Nat} {xs : List Opn} (h : Orw w g cap xs) (hb : Below w.heap.size w w') : Orw w' g cap xs := by
  obtain ⟨cur, h1, h2⟩ := h.row
  exact ⟨⟨cur, h1.below hb h1.lt, h2⟩, h.le⟩
theorem Orw.ops {w : World} {g cap : Nat} {xs : List Opn} (h : Orw w g cap xs) : Ops w (some ⟨g, 0, none⟩) xs.length cap g 0 xs := by
  obtain ⟨cur, h1, h2⟩ := h.row
  refine ⟨rfl, h.le, fun _ => ⟨rfl, h1.lt⟩, fun j t hj => ?_⟩
  have key : ∀ i, i < 5 → w.cell? ⟨g, 0 + j * 5 + i, none⟩ = (opC t)[i]? := fun i hi => by
    rw [Nat.zero_add, ← h2 j t hj i hi]; exact h1.cell _
  exact ⟨key 0 (by omega), key 1 (by omega), key 2 (by omega), key 3 (by omega), key 4 (by omega)⟩
theorem Orw.cell {w : World} {g cap : Nat} {xs : List Opn} (h : Orw w g cap xs) {j : Nat} {o : Opn} (ho : xs[j]? = some o) {i : Nat} (hi : i < 5) : w.cell? ⟨g, j * 5 + i, none⟩ = (opC o)[i]? ∧ w.frozen? ⟨g, j * 5 + i, none⟩ = false := by
  obtain ⟨cur, h1, h2⟩ := h.row
  exact ⟨(h1.cell _).trans (h2 j o ho i hi), h1.frozen _⟩
theorem Orw.turn {w : World} {g cap : Nat} {xs : List Opn} (h : Orw w g cap xs) {j i : Nat} {o o' : Opn} (ho : xs[j]? = some o) (hi : i < 5) (u : Value) (hu : (opC o')[i]? = some u) (hs : ∀ k, k < 5 → k ≠ i → (opC o')[k]? = (opC o)[k]?) :
    Orw (w.setCell ⟨g, j * 5 + i, none⟩ u) g cap (xs.set j o') := by
  obtain ⟨cur, h1, h2⟩ := h.row
  refine ⟨⟨_, h1.set_ (j * 5 + i) u, fun k x hk a ha => ?_⟩, by rw [List.length_set]; exact h.le⟩
  have hlt : j * 5 + i < cur.size := by
    have := h2 j o ho i hi
    have h5 : i < (opC o).length := hi
    rw [List.getElem?_eq_getElem h5] at this
    exact (Array.getElem?_eq_some_iff.1 this).1
  rw [Array.getElem?_setIfInBounds]
  by_cases hkj : j = k
  · subst hkj
    have hx : x = o' := by
      rw [List.getElem?_set_self (List.getElem?_eq_some_iff.1 ho).1] at hk
      exact (Option.some.inj hk).symm
    subst hx
    by_cases hai : i = a
    · subst hai
      rw [if_pos rfl, if_pos hlt, hu]
    · rw [if_neg (by omega), h2 j o ho a ha, hs a ha (fun e => hai e.symm)]
  · rw [if_neg (by omega)]
    rw [List.getElem?_set_ne hkj] at hk
    exact h2 k x hk a ha
theorem opsN_get (n j : Nat) (h : j < n) : (opsN n)[j]? = some (opN j) := by
  unfold opsN
  rw [List.getElem?_map, List.getElem?_range h]
  rfl
set_option maxHeartbeats 16000000 in
theorem names_law (n0 at0 bad : Int) (w : World) (hE : Env w) : Calls Tryz.prog 7 #[.int .i64 n0, .int .i64 at0, .int .i64 bad] w fun e w' => e = .returned (.bool true) ∧ Below w.heap.size w w' := by
  obtain ⟨i0, hi, hz0, hz1, hz2⟩ := q_info_parts infoOp
  have HF := Lib.hid (first12_any w hE)
  have HE := Lib.hid (fun W (hb : Below w.heap.size w W) => hE.on hb)
  obtain ⟨M, hM, hM8⟩ : ∃ M : Nat, (bits .and .i64 n0 255).tmod 8 = (M : Int) ∧ M < 8 := tmod_nat _ (low255 n0) 8 (by decide)
  obtain ⟨N, hN⟩ : ∃ N, M + 1 = N := ⟨_, rfl⟩
  have hn1 : wrap64 (1 + (M : Int)) = (N : Int) := by rw [IntWalk.wrap64_in _ (by omega)]; omega
  obtain ⟨J, hJ, hJn⟩ := tmod_nat _ (low255 at0) N (by omega)
  obtain ⟨m, hm, hm4⟩ : ∃ m : Nat, (bits .and .i64 bad 255).tmod 4 = (m : Int) ∧ m < 4 := tmod_nat _ (low255 bad) 4 (by decide)
  have hJ' : (bits .and .i64 at0 255).tmod (1 + (M : Int)) = (J : Int) := by rw [show (1 + (M : Int)) = (N : Int) by omega]; exact hJ
  have hJI : (J : Int) < (N : Int) := by omega
  have hN0 : ((N : Int) == 0) = false := by simp; omega
  have hNI : (N : Int) ≤ 8 := by omega
  have HU := Lib.hid (fun i hi W => uidk_any i hi W)
  have HK := Lib.hid (fun i hi W => cardk_any i hi W)
  clear hE
  go_enter Tryz.func7, Tryz.ntmps7
  go_wp2_with fail
  refine HF.out.mono ?_
  rintro _ w1 ⟨rfl, hb⟩
  have HN0 := Lib.hid (show Nb w (w1.alloc (.cells #[.int .i64 7, .string ⟨#[]⟩, .string ⟨#[104, 111, 109, 101]⟩, .string ⟨#[]⟩, .string ⟨#[]⟩, .int .i64 0, .int .i64 0, .slice none 0 0, .int .i64 0, .int .i64 0, .int .i64 0] 26)) w1.heap.size (.slice none 0 0) [] from ⟨Blk.new _ _ _, World.ownsRow_nil _ _ _ _, hb.trans (((Below.refl _ _).alloc (Nat.le_refl _) _).mono hb.size), hb.size⟩)
  clear hb
  go_wp2_with fail
  go_loopw [8] (fun i wr => ∃ (q : Nat) (v : Value), q ≤ N ∧ i = .int .i64 (q : Int) ∧ Nb w wr w1.heap.size v (opsN q)) (fun i _ => N - (intOf i).toNat)
  case atStart => exact ⟨0, _, Nat.zero_le _, rfl, HN0.out⟩
  case round =>
    obtain ⟨q, v, hq, rfl, hB⟩ := hrel
    have HB := Lib.hid hB
    have HL := Lib.hid (opsN_len q)
    clear hB
    by_cases hql : q < N
    · have hqI : (q : Int) < (N : Int) := by omega
      have hq8 : q < 8 := by omega
      go_wp2_with fail
      have HBD := Lib.hid (HB.out.keep (Below.refl _ _).drew)
      obtain ⟨W0, hW0⟩ : ∃ W0, wr.drew = W0 := ⟨_, rfl⟩
      have HB0 := Lib.hid (hW0 ▸ HBD.out)
      refine wp_region_E [([10], fun w' => w'.cell? ⟨w1.heap.size, 7, none⟩ = some v)] (by kernel_rfl) ⟨fun _ => HBD.out.bx.cell 7, trivial⟩ (fun hHeld => ?_)
      rw [hW0] at hHeld ⊢
      refine wpAnyE_take (i := 0) (v := ?_) rfl (by kernel_rfl) (by kernel_rfl) (by kernel_rfl) (by kernel_rfl) (fun _ _ _ h => h) (Or.inl ⟨by rfl, ?_⟩) hHeld (fun hHeld => ?_)
      rotate_left
      · (intro w hSw; (try dsimp only at hSw); (try simp only [List.getElem_toArray, List.getElem_cons_succ, List.getElem_cons_zero]); go_simp; try with_reducible rfl)
      try simp only [List.getElem_toArray, List.getElem_cons_succ, List.getElem_cons_zero, Act.put, List.setIfInBounds_toArray, List.set_cons_zero, List.set_cons_succ]
      refine wpAnyE_load (i := 1) _ _ (v := ?_) rfl (by kernel_rfl) List.mem_cons_self (by kernel_rfl) (by kernel_rfl) (by kernel_rfl) (by kernel_rfl) (fun _ _ _ h => h) (Or.inl ⟨by rfl, ?_⟩) hHeld (fun hHeld => ?_)
      rotate_left
      · (intro w hSw; (try dsimp only at hSw); (try simp only [List.getElem_toArray, List.getElem_cons_succ, List.getElem_cons_zero]); go_simp; try with_reducible rfl)
      try simp only [List.getElem_toArray, List.getElem_cons_succ, List.getElem_cons_zero, Act.put, List.setIfInBounds_toArray, List.set_cons_zero, List.set_cons_succ]
      refine wpAnyE_take (i := 2) (v := ?_) rfl (by kernel_rfl) (by kernel_rfl) (by kernel_rfl) (by kernel_rfl) (fun _ _ _ h => h) (Or.inl ⟨by rfl, ?_⟩) hHeld (fun hHeld => ?_)
      rotate_left
      · (intro w hSw; (try dsimp only at hSw); (try simp only [List.getElem_toArray, List.getElem_cons_succ, List.getElem_cons_zero]); go_simp; try with_reducible rfl)
      try simp only [List.getElem_toArray, List.getElem_cons_succ, List.getElem_cons_zero, Act.put, List.setIfInBounds_toArray, List.set_cons_zero, List.set_cons_succ]
      refine wpAnyE_take (i := 4) (v := ?_) rfl (by kernel_rfl) (by kernel_rfl) (by kernel_rfl) (by kernel_rfl) (fun _ _ _ h => h) (Or.inl ⟨by rfl, ?_⟩) hHeld (fun hHeld => ?_)
      rotate_left
      · (intro w hSw; (try dsimp only at hSw); (try simp only [List.getElem_toArray, List.getElem_cons_succ, List.getElem_cons_zero]); go_simp; try with_reducible rfl)
      try simp only [List.getElem_toArray, List.getElem_cons_succ, List.getElem_cons_zero, Act.put, List.setIfInBounds_toArray, List.set_cons_zero, List.set_cons_succ]
      refine wpAnyE_ready (rs := [3]) (by kernel_rfl) (by simp) (AllE.cons rfl (fun K hK => ?_) AllE.nil)
      clear hHeld
      go_simp
      refine (HU.out q hq8 _).mono ?_
      rintro _ x3 ⟨rfl, hw⟩
      subst hw
      refine hK.out _ _ ⟨fun _ => HB0.out.bx.cell 7, trivial⟩ (fun hHeld => ?_)
      clear hK K
      try simp only [List.getElem_toArray, List.getElem_cons_succ, List.getElem_cons_zero, Act.put, List.setIfInBounds_toArray, List.set_cons_zero, List.set_cons_succ]
      refine wpAnyE_ready (rs := [5]) (by kernel_rfl) (by simp) (AllE.cons rfl (fun K hK => ?_) AllE.nil)
      clear hHeld
      go_simp
      refine (HK.out q hq8 _).mono ?_
      rintro _ W1 ⟨rfl, hb⟩
      have HB1 := Lib.hid (HB0.out.keep hb)
      clear hb
      refine hK.out _ _ ⟨fun _ => HB1.out.bx.cell 7, trivial⟩ (fun hHeld => ?_)
      clear hK K
      try simp only [List.getElem_toArray, List.getElem_cons_succ, List.getElem_cons_zero, Act.put, List.setIfInBounds_toArray, List.set_cons_zero, List.set_cons_succ]
      refine wpAnyE_take (i := 6) (v := ?_) rfl (by kernel_rfl) (by kernel_rfl) (by kernel_rfl) (by kernel_rfl) (fun _ _ _ h => h) (Or.inl ⟨by rfl, ?_⟩) hHeld (fun hHeld => ?_)
      rotate_left
      · (intro w hSw; (try dsimp only at hSw); (try simp only [List.getElem_toArray, List.getElem_cons_succ, List.getElem_cons_zero]); go_simp; try with_reducible rfl)
      try simp only [List.getElem_toArray, List.getElem_cons_succ, List.getElem_cons_zero, Act.put, List.setIfInBounds_toArray, List.set_cons_zero, List.set_cons_succ]
      have HB2 := Lib.hid (HB1.out.keep ((Below.refl _ _).alloc (Nat.le_refl _) (.cells #[.bool false, .string (uidN q), .string (cardN q), .int .i64 0, .int .i64 0] 43)))
      refine wpAnyE_ready (rs := [7]) (by kernel_rfl) (by simp) (AllE.cons rfl (fun K hK => ?_) AllE.nil)
      clear hHeld
      go_simp
      refine hK.out _ _ ⟨fun _ => HB2.out.bx.cell 7, trivial⟩ (fun hHeld => ?_)
      clear hK K
      try simp only [List.getElem_toArray, List.getElem_cons_succ, List.getElem_cons_zero, Act.put, List.setIfInBounds_toArray, List.set_cons_zero, List.set_cons_succ]
      obtain ⟨W2, hW2⟩ : ∃ W2, W1.alloc (.cells #[.bool false, .string (uidN q), .string (cardN q), .int .i64 0, .int .i64 0] 43) = W2 := ⟨_, rfl⟩
      rw [hW2] at hHeld ⊢
      have HB3 := Lib.hid (hW2 ▸ HB2.out)
      have HBK := Lib.hid (show Blk W2 W1.heap.size 43 #[.bool false, .string (uidN q), .string (cardN q), .int .i64 0, .int .i64 0] from hW2 ▸ Blk.new W1 _ _)
      refine wpAnyE_ready (rs := [8]) (by kernel_rfl) (by simp) (AllE.cons rfl (fun K hK => ?_) AllE.nil)
      clear hHeld
      refine step_append_lies W2 rfl (.tmp 27) (.tmp 33) 24 rfl (w1.heap.size + 1) 43 i0 _ 5 56 Tryz.underlying24 hi hz0 hz1 hz2 rfl (by decide) v (opsN q).length (opsC (opsN q)) rfl HB3.out.ow ⟨W1.heap.size, 0, none⟩ 1 1 (opC (opN q)) rfl rfl (World.news_of_block HBK.out) ?cQ1 (by decide) ?cQ2 ?cQ3 HB3.out.bx.lt _ rfl ?_
      case cQ1 => (intro u hu; simp only [opC, List.mem_cons, List.not_mem_nil, or_false] at hu; rcases hu with rfl | rfl | rfl | rfl | rfl <;> rfl)
      case cQ2 => (have := HL.out; unfold maxLen; omega)
      case cQ3 => (have := HL.out; omega)
      intro g8 cap8 W3 h1 h2 h3 h4
      have HPB := Lib.hid (HB3.out.push h1 h2 (fun e => by have := (h1.lt _ e).1; omega))
      have f7 := HPB.out.1.frozen 7
      have b7 := HPB.out.1.cell 7
      clear h1 h2 h3 h4
      refine hK.out _ _ ⟨fun _ => HPB.out.1.cell 7, trivial⟩ (fun hHeld => ?_)
      clear hK K
      try simp only [List.getElem_toArray, List.getElem_cons_succ, List.getElem_cons_zero, Act.put, List.setIfInBounds_toArray, List.set_cons_zero, List.set_cons_succ]
      refine wpAnyE_take (i := 9) (v := ?_) rfl (by kernel_rfl) (by kernel_rfl) (by kernel_rfl) (by kernel_rfl) (fun _ _ _ h => h) (Or.inl ⟨by rfl, ?_⟩) hHeld (fun hHeld => ?_)
      rotate_left
      · (intro w hSw; (try dsimp only at hSw); (try simp only [List.getElem_toArray, List.getElem_cons_succ, List.getElem_cons_zero]); go_simp; try with_reducible rfl)
      try simp only [List.getElem_toArray, List.getElem_cons_succ, List.getElem_cons_zero, Act.put, List.setIfInBounds_toArray, List.set_cons_zero, List.set_cons_succ]
      refine wpAnyE_ready (rs := [10]) (by kernel_rfl) (by simp) (AllE.cons rfl (fun K hK => ?_) AllE.nil)
      clear hHeld
      go_simp
      refine hK.out _ _ ⟨(fun e => absurd e (Bool.eq_false_iff.1 (by kernel_rfl))), trivial⟩ (fun hHeld => ?_)
      clear hK K
      try simp only [List.getElem_toArray, List.getElem_cons_succ, List.getElem_cons_zero, Act.put, List.setIfInBounds_toArray, List.set_cons_zero, List.set_cons_succ]
      refine wpAnyE_done (by kernel_rfl) (only_normal ?_) _
      have HQ := Lib.hid HPB.out.2
      rw [← opsN_succ] at HQ
      go_wp2
      go_roundw
      case rel => exact ⟨q + 1, _, by omega, by go_num, HQ.out⟩
      case measure => simp [intOf]; omega
    · obtain rfl : N = q := by omega
      have HOW := HB.out.ow
      rw [opsN_len] at HOW
      obtain ⟨A, cap, b7, rfl, hI, hB7⟩ := own_ops (xs := opsN N) (by rw [opsN_len]; exact HOW)
      rw [opsN_len] at HOW
      obtain ⟨g, rfl, hg, hO⟩ := orw_of HOW (opsN_len N) (by omega)
      have HG := Lib.hid hg
      have HO := Lib.hid hO
      have HC := Lib.hid (bat_good N (by omega) (by omega))
      have HZ := Lib.hid (bat_sz N (by omega))
      rw [opsN_len] at HB
      have HX := Lib.hid (show Blk wr w1.heap.size 26 #[.int .i64 7, .string ⟨#[]⟩, .string ⟨#[104, 111, 109, 101]⟩, .string ⟨#[]⟩, .string ⟨#[]⟩, .int .i64 0, .int .i64 0, .slice (some ⟨g, 0, none⟩) N cap, .int .i64 0, .int .i64 0, .int .i64 0] from HB.out.bx)
      have HBL := Lib.hid HB.out.bel
      have HHX := Lib.hid HB.out.hX
      clear HOW hI hB7 hg hO
      have a0 := HX.out.cell 0
      have a1 := HX.out.cell 1
      have a2 := HX.out.cell 2
      have a3 := HX.out.cell 3
      have a4 := HX.out.cell 4
      have a5 := HX.out.cell 5
      have a6 := HX.out.cell 6
      have a7 := HX.out.cell 7
      have a8 := HX.out.cell 8
      have a9 := HX.out.cell 9
      have a10 := HX.out.cell 10
      simp only [List.getElem?_toArray, List.getElem?_cons_zero, List.getElem?_cons_succ] at a0 a1 a2 a3 a4 a5 a6 a7 a8 a9 a10
      go_wp2_with fail
      have HQ := Lib.hid (qcheck_any (q := batQ (opsN N)) HO.out.ops HZ.out (HE.out _ HBL.out))
      rw [opsN_len, HC.out] at HQ
      refine HQ.out.mono ?_
      rintro _ w2 ⟨rfl, hb⟩
      have HX2 := Lib.hid (HX.out.below hb HX.out.lt)
      have HO2 := Lib.hid (HO.out.below hb)
      have HBL2 := Lib.hid (HBL.out.trans (hb.mono HBL.out.size))
      clear hb
      have b0 := HX2.out.cell 0
      have b1 := HX2.out.cell 1
      have b2 := HX2.out.cell 2
      have b3 := HX2.out.cell 3
      have b4 := HX2.out.cell 4
      have b5 := HX2.out.cell 5
      have b6 := HX2.out.cell 6
      have b7 := HX2.out.cell 7
      have b8 := HX2.out.cell 8
      have b9 := HX2.out.cell 9
      have b10 := HX2.out.cell 10
      simp only [List.getElem?_toArray, List.getElem?_cons_zero, List.getElem?_cons_succ] at b0 b1 b2 b3 b4 b5 b6 b7 b8 b9 b10
      have ways : m = 0 ∨ m = 1 ∨ m = 2 ∨ m = 3 := by omega
      have hjo := opsN_get N J hJn
      rcases ways with rfl | rfl | rfl | rfl
      · skip
        obtain ⟨k1, f1⟩ := HO2.out.cell hjo (i := 1) (by decide)
        simp only [opC, opN, List.getElem?_cons_zero, List.getElem?_cons_succ] at k1
        have HT := Lib.hid (HO2.out.turn hjo (i := 1) (o' := ⟨false, bE, cardN J, 0, 0⟩) (by decide) (.string ⟨#[]⟩) rfl (fun k hk hne => by
          have : k = 0 ∨ k = 1 ∨ k = 2 ∨ k = 3 ∨ k = 4 := by omega
          rcases this with rfl | rfl | rfl | rfl | rfl <;> first | rfl | exact absurd rfl hne))
        have HBT := Lib.hid (HBL2.out.setCell (p := ⟨g, J * 5 + 1, none⟩) (by have := HG.out; have := HHX.out; show _ ≤ g; omega) (.string ⟨#[]⟩))
        have HXT := Lib.hid (HX2.out.far (p := ⟨g, J * 5 + 1, none⟩) (by have := HG.out; show w1.heap.size ≠ g; omega) (.string ⟨#[]⟩))
        have HS := Lib.hid (set_sz N J ⟨false, bE, cardN J, 0, 0⟩ (by omega) ⟨by first | exact Nat.zero_le _ | (have := uidN_size J; show (uidN J).size ≤ _; omega), by first | (have := cardN_size J; show (cardN J).size ≤ _; omega) | (show (⟨#[120]⟩ : ByteArray).size ≤ _; decide)⟩)
        have HQ2 := Lib.hid (qcheck_any (q := batQ (setO N J ⟨false, bE, cardN J, 0, 0⟩)) HT.out.ops HS.out (HE.out _ HBT.out))
        rw [show ((opsN N).set J ⟨false, bE, cardN J, 0, 0⟩).length = N by rw [List.length_set, opsN_len], bad_uid N J hJn (by omega)] at HQ2
        have t0 := HXT.out.cell 0
        have t1 := HXT.out.cell 1
        have t2 := HXT.out.cell 2
        have t3 := HXT.out.cell 3
        have t4 := HXT.out.cell 4
        have t5 := HXT.out.cell 5
        have t6 := HXT.out.cell 6
        have t7 := HXT.out.cell 7
        have t8 := HXT.out.cell 8
        have t9 := HXT.out.cell 9
        have t10 := HXT.out.cell 10
        simp only [List.getElem?_toArray, List.getElem?_cons_zero, List.getElem?_cons_succ] at t0 t1 t2 t3 t4 t5 t6 t7 t8 t9 t10
        clear hjo
        go_wp2_with fail
        refine HQ2.out.mono ?_
        rintro _ w3 ⟨rfl, hb⟩
        have HBE := Lib.hid (HBT.out.trans (hb.mono HBT.out.size))
        clear hb
        go_wp2
        go_ret
        exact ⟨rfl, HBE.out⟩
      · skip
        obtain ⟨k2, f2⟩ := HO2.out.cell hjo (i := 2) (by decide)
        simp only [opC, opN, List.getElem?_cons_zero, List.getElem?_cons_succ] at k2
        have HT := Lib.hid (HO2.out.turn hjo (i := 2) (o' := ⟨false, uidN J, ⟨#[120]⟩, 0, 0⟩) (by decide) (.string ⟨#[120]⟩) rfl (fun k hk hne => by
          have : k = 0 ∨ k = 1 ∨ k = 2 ∨ k = 3 ∨ k = 4 := by omega
          rcases this with rfl | rfl | rfl | rfl | rfl <;> first | rfl | exact absurd rfl hne))
        have HBT := Lib.hid (HBL2.out.setCell (p := ⟨g, J * 5 + 2, none⟩) (by have := HG.out; have := HHX.out; show _ ≤ g; omega) (.string ⟨#[120]⟩))
        have HXT := Lib.hid (HX2.out.far (p := ⟨g, J * 5 + 2, none⟩) (by have := HG.out; show w1.heap.size ≠ g; omega) (.string ⟨#[120]⟩))
        have HS := Lib.hid (set_sz N J ⟨false, uidN J, ⟨#[120]⟩, 0, 0⟩ (by omega) ⟨by first | exact Nat.zero_le _ | (have := uidN_size J; show (uidN J).size ≤ _; omega), by first | (have := cardN_size J; show (cardN J).size ≤ _; omega) | (show (⟨#[120]⟩ : ByteArray).size ≤ _; decide)⟩)
        have HQ2 := Lib.hid (qcheck_any (q := batQ (setO N J ⟨false, uidN J, ⟨#[120]⟩, 0, 0⟩)) HT.out.ops HS.out (HE.out _ HBT.out))
        rw [show ((opsN N).set J ⟨false, uidN J, ⟨#[120]⟩, 0, 0⟩).length = N by rw [List.length_set, opsN_len], bad_card N J hJn (by omega)] at HQ2
        have t0 := HXT.out.cell 0
        have t1 := HXT.out.cell 1
        have t2 := HXT.out.cell 2
        have t3 := HXT.out.cell 3
        have t4 := HXT.out.cell 4
        have t5 := HXT.out.cell 5
        have t6 := HXT.out.cell 6
        have t7 := HXT.out.cell 7
        have t8 := HXT.out.cell 8
        have t9 := HXT.out.cell 9
        have t10 := HXT.out.cell 10
        simp only [List.getElem?_toArray, List.getElem?_cons_zero, List.getElem?_cons_succ] at t0 t1 t2 t3 t4 t5 t6 t7 t8 t9 t10
        clear hjo
        go_wp2_with fail
        refine HQ2.out.mono ?_
        rintro _ w3 ⟨rfl, hb⟩
        have HBE := Lib.hid (HBT.out.trans (hb.mono HBT.out.size))
        clear hb
        go_wp2
        go_ret
        exact ⟨rfl, HBE.out⟩
      · skip
        obtain ⟨k0, f0⟩ := HO2.out.cell hjo (i := 0) (by decide)
        simp only [opC, opN, List.getElem?_cons_zero, List.getElem?_cons_succ] at k0
        have HT := Lib.hid (HO2.out.turn hjo (i := 0) (o' := ⟨true, uidN J, cardN J, 0, 0⟩) (by decide) (.bool true) rfl (fun k hk hne => by
          have : k = 0 ∨ k = 1 ∨ k = 2 ∨ k = 3 ∨ k = 4 := by omega
          rcases this with rfl | rfl | rfl | rfl | rfl <;> first | rfl | exact absurd rfl hne))
        have HBT := Lib.hid (HBL2.out.setCell (p := ⟨g, J * 5 + 0, none⟩) (by have := HG.out; have := HHX.out; show _ ≤ g; omega) (.bool true))
        have HXT := Lib.hid (HX2.out.far (p := ⟨g, J * 5 + 0, none⟩) (by have := HG.out; show w1.heap.size ≠ g; omega) (.bool true))
        have HS := Lib.hid (set_sz N J ⟨true, uidN J, cardN J, 0, 0⟩ (by omega) ⟨by first | exact Nat.zero_le _ | (have := uidN_size J; show (uidN J).size ≤ _; omega), by first | (have := cardN_size J; show (cardN J).size ≤ _; omega) | (show (⟨#[120]⟩ : ByteArray).size ≤ _; decide)⟩)
        have HQ2 := Lib.hid (qcheck_any (q := batQ (setO N J ⟨true, uidN J, cardN J, 0, 0⟩)) HT.out.ops HS.out (HE.out _ HBT.out))
        rw [show ((opsN N).set J ⟨true, uidN J, cardN J, 0, 0⟩).length = N by rw [List.length_set, opsN_len], bad_del N J hJn (by omega)] at HQ2
        simp only [Nat.add_zero] at k0 f0 HXT HBT HQ2
        have t0 := HXT.out.cell 0
        have t1 := HXT.out.cell 1
        have t2 := HXT.out.cell 2
        have t3 := HXT.out.cell 3
        have t4 := HXT.out.cell 4
        have t5 := HXT.out.cell 5
        have t6 := HXT.out.cell 6
        have t7 := HXT.out.cell 7
        have t8 := HXT.out.cell 8
        have t9 := HXT.out.cell 9
        have t10 := HXT.out.cell 10
        simp only [List.getElem?_toArray, List.getElem?_cons_zero, List.getElem?_cons_succ] at t0 t1 t2 t3 t4 t5 t6 t7 t8 t9 t10
        clear hjo
        go_wp2_with fail
        refine HQ2.out.mono ?_
        rintro _ w3 ⟨rfl, hb⟩
        have HBE := Lib.hid (HBT.out.trans (hb.mono HBT.out.size))
        clear hb
        go_wp2
        go_ret
        exact ⟨rfl, HBE.out⟩
      · skip
        obtain ⟨k3, f3⟩ := HO2.out.cell hjo (i := 3) (by decide)
        simp only [opC, opN, List.getElem?_cons_zero, List.getElem?_cons_succ] at k3
        obtain ⟨k4, f4⟩ := HO2.out.cell hjo (i := 4) (by decide)
        simp only [opC, opN, List.getElem?_cons_zero, List.getElem?_cons_succ] at k4
        have HT := Lib.hid (HO2.out.turn hjo (i := 3) (o' := ⟨false, uidN J, cardN J, 9, 0⟩) (by decide) (.int .i64 9) rfl (fun k hk hne => by
          have : k = 0 ∨ k = 1 ∨ k = 2 ∨ k = 3 ∨ k = 4 := by omega
          rcases this with rfl | rfl | rfl | rfl | rfl <;> first | rfl | exact absurd rfl hne))
        have HT2 := Lib.hid (HT.out.turn (j := J) (i := 4) (o := ⟨false, uidN J, cardN J, 9, 0⟩) (o' := ⟨false, uidN J, cardN J, 9, 0⟩) (by rw [List.getElem?_set_self (by rw [opsN_len]; exact hJn)]) (by decide) (.int .i64 0) rfl (fun k hk hne => rfl))
        rw [List.set_set] at HT2
        have HBT := Lib.hid ((HBL2.out.setCell (p := ⟨g, J * 5 + 3, none⟩) (by have := HG.out; have := HHX.out; show _ ≤ g; omega) (.int .i64 9)).setCell (p := ⟨g, J * 5 + 4, none⟩) (by have := HG.out; have := HHX.out; show _ ≤ g; omega) (.int .i64 0))
        have HXT := Lib.hid ((HX2.out.far (p := ⟨g, J * 5 + 3, none⟩) (by have := HG.out; show w1.heap.size ≠ g; omega) (.int .i64 9)).far (p := ⟨g, J * 5 + 4, none⟩) (by have := HG.out; show w1.heap.size ≠ g; omega) (.int .i64 0))
        have HS := Lib.hid (set_sz N J ⟨false, uidN J, cardN J, 9, 0⟩ (by omega) ⟨by first | exact Nat.zero_le _ | (have := uidN_size J; show (uidN J).size ≤ _; omega), by first | (have := cardN_size J; show (cardN J).size ≤ _; omega) | (show (⟨#[120]⟩ : ByteArray).size ≤ _; decide)⟩)
        have HQ2 := Lib.hid (qcheck_any (q := batQ (setO N J ⟨false, uidN J, cardN J, 9, 0⟩)) HT2.out.ops HS.out (HE.out _ HBT.out))
        rw [show ((opsN N).set J ⟨false, uidN J, cardN J, 9, 0⟩).length = N by rw [List.length_set, opsN_len], bad_cond N J hJn (by omega)] at HQ2
        have t0 := HXT.out.cell 0
        have t1 := HXT.out.cell 1
        have t2 := HXT.out.cell 2
        have t3 := HXT.out.cell 3
        have t4 := HXT.out.cell 4
        have t5 := HXT.out.cell 5
        have t6 := HXT.out.cell 6
        have t7 := HXT.out.cell 7
        have t8 := HXT.out.cell 8
        have t9 := HXT.out.cell 9
        have t10 := HXT.out.cell 10
        simp only [List.getElem?_toArray, List.getElem?_cons_zero, List.getElem?_cons_succ] at t0 t1 t2 t3 t4 t5 t6 t7 t8 t9 t10
        clear hjo
        go_wp2_with fail
        refine HQ2.out.mono ?_
        rintro _ w3 ⟨rfl, hb⟩
        have HBE := Lib.hid (HBT.out.trans (hb.mono HBT.out.size))
        clear hb
        go_wp2
        go_ret
        exact ⟨rfl, HBE.out⟩
theorem reqNames_walk (w : World) (hTD : Tabs w ∧ Day.Tab w.heap.size w) (hM : Mx w) (a0 : Int) (w0 : (Lit.int .i64 a0).wf = true) (a1 : Int) (w1 : (Lit.int .i64 a1).wf = true) (a2 : Int) (w2 : (Lit.int .i64 a2).wf = true) :
    Calls Tryz.prog 7 #[.int .i64 a0, .int .i64 a1, .int .i64 a2] w fun e w' => e = .returned (.bool true) ∧ Below w.heap.size w w' := names_law a0 a1 a2 w ⟨hTD.1, hM, hTD.2⟩
end Go.Proofs.YtphijnkiiokieaaGreatDoor
/- A law's row over listed variables that reads one of the library's besides: the world's shape is handed on. -/
namespace Go.Proofs.YtphijnkiiokieaaGreatDoor
open Go.ChangeShapes Go.WideShapes Go.RowKit
variable {H : Type} {enc : TypeId × Value → H}
theorem handed_and_shaped {a : Assume} {C : Checked} {os : Os} {f : FuncId} {fn : Func} {s : ChangeSpec} {conds : List PathCond} {apart fresh handsOn again : Bool} {X : World → Array Value → Prop}
    (hX : ∀ (w w' : World) (args : Array Value), w.heap = w'.heap → X w args → X w' args)
    (own : ownKnob C.prog.godebug = none) (started : os.Started) (noInit : C.prog.inits.idxOf? f = none) (hfn : C.prog.funcs[f]? = some fn)
    (witness : ∃ (w : World) (tape : Tape) (i : Input), w.os = os ∧ (w.forCall tape i).Shaped C.prog ∧ i.vars = [] ∧ Input.okWide C.prog (w.forCall tape i) .any w.heap.size f i ∧
      ((s.pre enc C.prog fn conds apart (w.forCall tape i).memory i.args ∧ X (w.forCall tape i).memory i.args) ∧ sizedMet enc C.prog fn (OpenSpec.ofChange s) apart (w.forCall tape i).memory i.args) ∧ a.holds C.prog (lone (Frame.enter C.prog f i.args .normal) [] (w.forCall tape i)))
    (contract : ∀ (W : World) (base : Nat) (args : Array Value) (ds gs : List (DataW H)) (before : List MemPlace),
      (∀ (j : Nat) t v, fn.params[j]? = some t → args[j]? = some v → Value.okWide C.prog W .any base t v) →
      DataW.Whole enc C.prog fn.params.toList s.vars apart W args.toList ds gs before →
      X W args → W.ShapedOpen C.prog →
      Calls C.prog f args W fun e W' => ∃ v, e = .returned v ∧ s.post enc C.prog fn apart fresh handsOn again W args v W') :
    ReturnsInHanded a C os f .any (fun w args => (s.pre enc C.prog fn conds apart w args ∧ X w args) ∧ sizedMet enc C.prog fn (OpenSpec.ofChange s) apart w args) (s.post enc C.prog fn apart fresh handsOn again) := by
  refine returnsInHanded_of_calls own started noInit witness ?_
  intro w tape i _ hsh _ hok hpre _
  obtain ⟨_, _, _, fn', hfn', _, _, _, _, hval⟩ := hok
  have e : fn' = fn := Option.some.inj (hfn'.symm.trans hfn)
  subst e
  obtain ⟨⟨⟨ds, gs, before, hw, _⟩, hx⟩, _⟩ := hpre
  have hw' := DataW.Whole.of_heap (w' := w.forCall tape i) (by rfl) hw
  refine (contract (w.forCall tape i) w.heap.size i.args ds gs before hval hw' (hX _ _ _ (by rfl) hx) hsh).mono fun e W' ⟨v, he, hp⟩ => ?_
  subst he
  exact ChangeSpec.post_blind hp
set_option maxRecDepth 100000 in
theorem mx_of {W : World} (h : W.ShapedOpen Tryz.prog) : Mx W :=
  cell_of_shapedOpen_int h (g := 0) (t := 3) (zero := #[.int .i64 0]) (of_decide_eq_true (by kernel_rfl)) (by kernel_rfl) rfl (by kernel_rfl) (by kernel_rfl) Tryz.underlying3
end Go.Proofs.YtphijnkiiokieaaGreatDoor
namespace Go.Proofs.YtphijnkiiokieaaGreatDoor
open Go.ChangeShapes Go.WideShapes Go.RowKit
abbrev laidL : List (String × DataW Unit) := [("math/bits.deBruijn32tab", Rows.laid_math_bits_deBruijn32tab), ("math/bits.deBruijn64tab", Rows.laid_math_bits_deBruijn64tab), ("internal/strconv.uint64pow10", Rows.laid_internal_strconv_uint64pow10), ("unicode/utf8.acceptRanges", Rows.laid_unicode_utf8_acceptRanges), ("unicode/utf8.first", Rows.laid_unicode_utf8_first)]
set_option maxRecDepth 100000 in
theorem door_met (os : Os) (args : Array Value) : laidMetH Tryz.prog laidL ((World.laidAll Tryz.prog os laidL).forCall (fun _ _ => 0) ⟨#[], args, []⟩).memory := by
  rw [MakeChecks.laidMetH_plain _ _ _ (by kernel_rfl)]; exact laidMet_laidAll _ (by kernel_rfl) (by kernel_rfl)
theorem acc_eq : (Rows.laid_unicode_utf8_acceptRanges : DataW Unit) = Lib.acceptData := by kernel_rfl
theorem fst_eq : Rows.laid_unicode_utf8_first = Lib.firstData := Pinned.utf8First_eq
theorem pow_eq : (Rows.laid_internal_strconv_uint64pow10 : DataW Unit) = Lib.tabData .u64 Lib.pow10Tab := by kernel_rfl
set_option maxRecDepth 100000 in
theorem facts {W : World} (h : laidMetH Tryz.prog laidL W) : Tabs W ∧ Day.Tab W.heap.size W := by
  rw [MakeChecks.laidMetH_plain _ _ _ (by kernel_rfl)] at h
  have h1 : laidMet Tryz.prog [("internal/strconv.uint64pow10", Lib.tabData .u64 Lib.pow10Tab), ("unicode/utf8.acceptRanges", Lib.acceptData), ("unicode/utf8.first", Lib.firstData)] W := by rw [← acc_eq, ← fst_eq, ← pow_eq]; exact h.tail.tail
  have h2 : laidMet Tryz.prog [("unicode/utf8.acceptRanges", Lib.acceptData), ("unicode/utf8.first", Lib.firstData)] W := h1.tail
  exact ⟨utf8Tabs_of_readsT (U8Types.of196 Tryz.lays196) ⟨by kernel_rfl, by kernel_rfl, by kernel_rfl, by kernel_rfl, by kernel_rfl, by kernel_rfl, by kernel_rfl⟩ (Lib.laidMet.reads h2 (.tail _ (.head _))) (Lib.laidMet.reads h2 (.head _)),
    Lib.tabBelow_of_tabIs (Lib.tabIs_of_head (g := 3) (t := 196) (e := 89) (n := 20) (by kernel_rfl) (by kernel_rfl) Tryz.underlying196 Tryz.underlying89 (by kernel_rfl) (by kernel_rfl) h1)⟩
end Go.Proofs.YtphijnkiiokieaaGreatDoor
