/- The ring of numbers: its methods' walks. -/
import Derived.Test.YtglifomkhcikdaaRow
namespace Go.Proofs.Ytglifomkhcikdaa
open Go.RowKit
set_option linter.unusedVariables false
set_option maxRecDepth 20000
theorem info_parts {P : Program} {e : TypeId} {z : Value} {a b : Nat} (h : (P.info? e).map (fun i => (i.zero, i.size, i.bytes)) = some (some z, a, b)) : ∃ i, P.info? e = some i ∧ i.zero = some z ∧ i.size = a ∧ i.bytes = b := by
  cases hi : P.info? e with
  | none => rw [hi] at h; cases h
  | some i => rw [hi] at h; simp at h; exact ⟨i, rfl, h⟩
theorem info2 : (Try.prog.info? 2).map (fun i => (i.zero, i.size, i.bytes)) = some (some (.int .i64 0), 1, 8) := by kernel_rfl
def Rng (T e : TypeId) (w : World) (R g : Nat) (most first : Int) (items : List Value) : Prop := ∃ (A : Option Addr) (cap : Nat), Blk w R T #[.int .i64 most, .slice A items.length cap, .int .i64 first] ∧ OwnG e w A cap g items ∧ T ≠ e ∧ g < w.heap.size
theorem Rng.lt {T e : TypeId} {w : World} {R g : Nat} {most first : Int} {items : List Value} (h : Rng T e w R g most first items) : R < w.heap.size := by
  obtain ⟨A, cap, hb, _⟩ := h; exact hb.lt
theorem Rng.keep {T e : TypeId} {w w' : World} {R g : Nat} {most first : Int} {items : List Value} (h : Rng T e w R g most first items) (h1 : w'.heap[R]? = w.heap[R]?) (h2 : w'.heap[g]? = w.heap[g]?) : Rng T e w' R g most first items := by
  obtain ⟨A, cap, hb, ho, hT, hg⟩ := h
  refine ⟨A, cap, h1.trans hb, ho.keep h2, hT, ?_⟩
  rcases Nat.lt_or_ge g w'.heap.size with hlt | hge
  · exact hlt
  · rw [Array.getElem?_eq_none hge, Array.getElem?_eq_getElem hg] at h2; cases h2
theorem new_any (m : Int) (w : World) : Calls Try.prog 8 #[.int .i64 m] w fun e w' => e = .returned (.pointer (some ⟨w.heap.size, 0, none⟩)) ∧ Rng 46 2 w' w.heap.size w.heap.size (max m 1) 0 [] ∧ Below w.heap.size w w' := by
  go_enter Try.func8, Try.ntmps8
  go_wp2
  all_goals (
    go_ret
    refine ⟨rfl, ⟨none, 0, ?_, .inl ⟨rfl, rfl, rfl⟩, by decide, by simp⟩, (Below.refl _ _).alloc (Nat.le_refl _) _⟩
    first
      | (rw [show max m 1 = 1 by omega]; exact Blk.new _ _ _)
      | (rw [show max m 1 = m by omega]; exact Blk.new _ _ _))
theorem len_any {w : World} {R g : Nat} {most first : Int} {items : List Value} (h : Rng 46 2 w R g most first items) : Calls Try.prog 10 #[.pointer (some ⟨R, 0, none⟩)] w fun e w' => e = .returned (.int .i64 (items.length : Int)) ∧ Below w.heap.size w w' := by
  obtain ⟨A, cap, hb, ho, hT, hg⟩ := h
  have c1 := hb.cell 1
  simp only [List.getElem?_toArray, List.getElem?_cons_zero, List.getElem?_cons_succ] at c1
  clear hb ho hT
  go_enter Try.func10, Try.ntmps10
  go_wp2
  go_ret
  exact ⟨rfl, Below.refl _ _⟩
theorem place_any {w : World} {R g : Nat} {most : Int} {F i n : Nat} {items : List Value} (h : Rng 46 2 w R g most F items) (hn : items.length = n) (h1 : 0 < n) (h2 : n ≤ 1000000) (hF : F < n) (hi : i ≤ n) :
    Calls Try.prog 18 #[.pointer (some ⟨R, 0, none⟩), .int .i64 (i : Int)] w fun e w' => e = .returned (.int .i64 (((F + i) % n : Nat) : Int)) ∧ ∃ nq, w' = w.drewN nq := by
  obtain ⟨A, cap, hb, ho, hT, hg⟩ := h
  rw [hn] at hb
  have c1 := hb.cell 1
  have c2 := hb.cell 2
  simp only [List.getElem?_toArray, List.getElem?_cons_zero, List.getElem?_cons_succ] at c1 c2
  have hz : ((n : Int) == 0) = false := by simp; omega
  have hz2 : ¬ (n : Int) = 0 := by omega
  have i1 : wrap64 ((F : Int) + (i : Int)) = (F : Int) + (i : Int) := IntWalk.wrap64_in _ (by omega)
  clear hb ho hT
  go_enter Try.func18, Try.ntmps18
  go_wp2
  go_quiet (fail)
  go_wp2
  go_ret
  exact ⟨ret_i64 (by push_cast; rfl), _, rfl⟩
theorem src_one {W : World} {g : Nat} {x : Int} (h : Blk W g 2 #[.int .i64 x]) : Src Try.prog 1 22 (.slice (some ⟨g, 0, none⟩) 1 1) 1 [.int .i64 x] W := by
  refine Src.ofSlice W Try.underlying22 _ 1 1 _ rfl (fun j u hu => ?_) (fun u hu => by
    have := List.mem_singleton.1 hu
    subst this
    rfl)
  rw [add_plain, Nat.zero_add, h.cell j]
  simpa using hu
set_option maxHeartbeats 1000000 in
theorem push_room {w : World} {R g : Nat} {most first : Int} {items : List Value} (h : Rng 46 2 w R g most first items) (hn : (items.length : Int) < most) (hs : items.length ≤ 1000000) (x : Int) :
    Calls Try.prog 9 #[.pointer (some ⟨R, 0, none⟩), .int .i64 x] w fun e w' => e = .returned (.tuple #[.int .i64 0, .bool false]) ∧ ∃ g', Rng 46 2 w' R g' most first (items ++ [.int .i64 x]) ∧ (g' = g ∨ w.heap.size ≤ g') ∧ Tw w w' R g := by
  obtain ⟨A, cap, hb, ho, hT, hg⟩ := h
  have c0 := hb.cell 0
  have c1 := hb.cell 1
  have hlt := hb.lt
  simp only [List.getElem?_toArray, List.getElem?_cons_zero, List.getElem?_cons_succ] at c0 c1
  have HB := Lib.hid hb
  have HO := Lib.hid ho
  have HS := Lib.hid hs
  obtain ⟨i0, hi, hz0, hz1, hz2⟩ := info_parts info2
  have HTT := Lib.hid hT
  have HG := Lib.hid hg
  clear hb ho hs hg
  go_enter Try.func9, Try.ntmps9
  go_wp2
  go_quiet (fail)
  have d1 : (w.drewN nq).cell? ⟨R, 1, none⟩ = some (.slice A items.length cap) := c1
  go_wp2_with (
    at_builtin
    refine wpList_own_push (e := 2) (t := 22) (tx := 22) (z := .int .i64 0) (i := i0) (A := A) (cap := cap) (g := g) (l := items) (L := items.length) _ rfl (.tmp 20) (.tmp 22) rfl Try.underlying22 hi hz0 hz1 (by omega) rfl rfl rfl (HO.out.keep ?hk) (.slice (some ⟨w.heap.size, 0, none⟩) 1 1) (.int .i64 x) rfl (src_one (Blk.new (w.drewN nq) _ _)) ?h63 R ?hK
    case hk => exact Below.heap_alloc (w.drewN nq) _ g HG.out
    case h63 => exact HS.out
    intro cap' g' w2 h1 h2 h3 h4
    have hR : w2.heap[R]? = w.heap[R]? := (h4 R (by simp; omega) (HO.out.ne HB.out HTT.out)).trans (Below.heap_alloc (w.drewN nq) _ R hlt)
    have HB2 := Lib.hid (show Blk w2 R 46 #[.int .i64 most, .slice A items.length cap, .int .i64 first] from hR.trans HB.out)
    have e1 : w2.cell? ⟨R, 1, none⟩ = some (.slice A items.length cap) := by rw [HB2.out.cell 1]; rfl
    have f1 := HB2.out.frozen 1
    have HO2 := Lib.hid h1
    have H2 := Lib.hid h3
    have HG2 := Lib.hid h2
    clear h1 h2 h3 h4 hR)
  go_ret2
  have hB3 := HB2.out.set_ 1 (.slice (some ⟨g', 0, none⟩) (items.length + 1) cap')
  have hne : R ≠ g' := by
    rcases HO2.out.ne HB2.out HTT.out with h | h
    · cases h
    · exact h
  refine ⟨rfl, g', ⟨some ⟨g', 0, none⟩, cap', ?_, HO2.out.keep ?_, HTT.out, ?_⟩, ?_, ?_⟩
  · rw [List.length_append]; exact hB3
  · exact Below.heap_setCell w2 _ _ _ (fun e => hne e.symm)
  · rw [size_setCell]; exact HO2.out.some_lt
  · rcases HG2.out with h | h
    · exact .inl h
    · exact .inr (by simp at h; omega)
  · exact (((Tw.refl w R g).drewN nq).alloc _).trans H2.out |>.setCell (.inl rfl) _
set_option maxHeartbeats 1000000 in
theorem push_full {w : World} {R g n F : Nat} {most x y : Int} {items : List Value} (h : Rng 46 2 w R g most F items) (hl : items.length = n) (hn : ¬ (n : Int) < most) (hs : n ≤ 1000000) (hF : F < n) (hy : items[F]? = some (.int .i64 y)) :
    Calls Try.prog 9 #[.pointer (some ⟨R, 0, none⟩), .int .i64 x] w fun e w' => e = .returned (.tuple #[.int .i64 y, .bool true]) ∧ Rng 46 2 w' R g most (((F + 1) % n : Nat) : Int) (items.set F (.int .i64 x)) ∧ Tw w w' R g := by
  obtain ⟨A, cap, hb, ho, hT, hg⟩ := id h
  obtain ⟨rfl, hcap, _, cF, fF⟩ := ho.cell hy
  have hne : R ≠ g := by
    rcases ho.ne hb hT with h | h
    · cases h
    · exact h
  rw [hl] at hb hcap
  have c0 := hb.cell 0
  have c1 := hb.cell 1
  have c2 := hb.cell 2
  have hlt := hb.lt
  simp only [List.getElem?_toArray, List.getElem?_cons_zero, List.getElem?_cons_succ] at c0 c1 c2
  have hFi : (F : Int) < (n : Int) := by omega
  have HB := Lib.hid hb
  have HO := Lib.hid ho
  have HTT := Lib.hid hT
  have HG := Lib.hid hg
  have HNE := Lib.hid hne
  have HLL := Lib.hid hl
  have HH := Lib.hid h
  clear hb ho hg hy hne hl h hT
  go_enter Try.func9, Try.ntmps9
  go_wp2
  go_quiet (fail)
  go_wp2
  go_quiet (fail)
  go_wp2
  go_region
  go_wp2_with (
    go_at_call 18
    generalize hW : World.setCell (World.drewN w _) _ _ = W1
    have hB1 : Blk W1 R 46 #[.int .i64 most, .slice (some ⟨g, 0, none⟩) n cap, .int .i64 (F : Int)] := by
      rw [← hW]; exact (HB.out.drewN _).far (by exact HNE.out) _
    have hO1 : OwnG 2 W1 (some ⟨g, 0, none⟩) cap g (items.set F (.int .i64 x)) := by
      rw [← hW]; exact OwnG.set (HO.out.keep rfl) F _
    have hT1 : Tw w W1 R g := by
      rw [← hW]; exact ((Tw.refl w R g).drewN _).setCell (.inr (.inl rfl)) _
    have hg1 : g < W1.heap.size := Nat.lt_of_lt_of_le HG.out hT1.size
    have hls : (items.set F (.int .i64 x)).length = n := by rw [List.length_set]; exact HLL.out
    refine Calls.mono (place_any (i := 1) ⟨_, _, by rw [hls]; exact hB1, hO1, HTT.out, hg1⟩ hls (by omega) hs hF (by omega)) ?_
    rintro _ w2 ⟨rfl, nq2, rfl⟩
    have e2 := (hB1.drewN nq2).cell 2
    have f2 := (hB1.drewN nq2).frozen 2
    simp only [List.getElem?_toArray, List.getElem?_cons_zero, List.getElem?_cons_succ] at e2
    have HB1 := Lib.hid (hB1.drewN nq2)
    have HO1 := Lib.hid (OwnG.keep (w' := W1.drewN nq2) hO1 rfl)
    have HT1 := Lib.hid (hT1.drewN nq2)
    have HG1 := Lib.hid hg1
    have HLS := Lib.hid hls
    clear hB1 hO1 hT1 hg1 hls hW)
  go_ret2
  have hB3 := HB1.out.set_ 2 (.int .i64 (((F + 1) % n : Nat) : Int))
  refine ⟨rfl, ⟨some ⟨g, 0, none⟩, cap, ?_, HO1.out.keep ?_, HTT.out, ?_⟩, HT1.out.setCell (.inl rfl) _⟩
  · rw [HLS.out]; exact hB3
  · exact Below.heap_setCell _ _ _ _ (fun e => HNE.out e.symm)
  · rw [size_setCell]; exact HG1.out
theorem at_out {w : World} {R g : Nat} {most first i : Int} {items : List Value} (h : Rng 46 2 w R g most first items) (hi : i < 0 ∨ (items.length : Int) ≤ i) :
    Calls Try.prog 11 #[.pointer (some ⟨R, 0, none⟩), .int .i64 i] w fun e w' => e = .returned (.tuple #[.int .i64 0, .bool false]) ∧ Below w.heap.size w w' := by
  obtain ⟨A, cap, hb, ho, hT, hg⟩ := h
  have c1 := hb.cell 1
  simp only [List.getElem?_toArray, List.getElem?_cons_zero, List.getElem?_cons_succ] at c1
  clear hb ho hT hg
  go_enter Try.func11, Try.ntmps11
  go_wp2
  all_goals (try omega)
  all_goals (try (go_ret2; exact ⟨rfl, Below.refl _ _⟩))
set_option maxHeartbeats 1000000 in
theorem at_in {w : World} {R g F i n : Nat} {most y : Int} {items : List Value} (h : Rng 46 2 w R g most F items) (hn : items.length = n) (hs : n ≤ 1000000) (hF : F < n) (hi : i < n) (hy : items[(F + i) % n]? = some (.int .i64 y)) :
    Calls Try.prog 11 #[.pointer (some ⟨R, 0, none⟩), .int .i64 (i : Int)] w fun e w' => e = .returned (.tuple #[.int .i64 y, .bool true]) ∧ Below w.heap.size w w' := by
  obtain ⟨A, cap, hb, ho, hT, hg⟩ := id h
  obtain ⟨rfl, hcap, _, cF, fF⟩ := ho.cell hy
  rw [hn] at hb hcap
  have c1 := hb.cell 1
  simp only [List.getElem?_toArray, List.getElem?_cons_zero, List.getElem?_cons_succ] at c1
  have hm : (F + i) % n < n := Nat.mod_lt _ (by omega)
  have CP := Lib.hid (fun W (h : Rng 46 2 W R g most F items) => place_any (i := i) h hn (by omega) hs hF (by omega))
  have HH := Lib.hid h
  have h1 : ¬ (i : Int) < 0 := by omega
  have h2 : ¬ (n : Int) ≤ (i : Int) := by omega
  clear hb ho hT hg hy h
  generalize hM : (F + i) % n = M at *
  have hM1 : (M : Int) < (n : Int) := by omega
  go_enter Try.func11, Try.ntmps11
  go_wp2
  go_region_with (
    go_at_call 18
    refine (CP.out _ ?_).mono ?_
    · exact (HH.out.keep rfl rfl)
    rintro _ w2 ⟨rfl, nq2, rfl⟩
    go_simp)
  all_goals (
    go_wp2
    go_ret2
    exact ⟨rfl, below_drewN (Below.refl _ _) _⟩)
end Go.Proofs.Ytglifomkhcikdaa
