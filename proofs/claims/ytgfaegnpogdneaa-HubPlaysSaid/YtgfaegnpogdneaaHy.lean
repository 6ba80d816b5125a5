/- The reference's hub: Add, Woken, At, Wake. -/
import Derived.Test.YtgfaegnpogdneaaHx
namespace Go.Proofs.Ytgfaegnpogdneaa
open Go.RowKit Go.Maps
set_option linter.unusedVariables false
set_option linter.unusedSimpArgs false
set_option maxRecDepth 100000
/-- What is not the reference's is as it was. -/
structure Rk (w w' : World) (g : Nat) (V V' : Value) : Prop where
  os : w'.os = w.os
  tape : w'.tape = w.tape
  output : w'.output = w.output
  size : w.heap.size ≤ w'.heap.size
  block : ∀ j, j < w.heap.size → j ≠ g → V.ownBlock ≠ some j → w'.heap[j]? = w.heap[j]?
  own : ∀ k, V'.ownBlock = some k → V.ownBlock = some k ∨ w.heap.size ≤ k
theorem Rk.refl (w : World) (g : Nat) (V : Value) : Rk w w g V V := ⟨rfl, rfl, rfl, Nat.le_refl _, fun _ _ _ _ => rfl, fun _ h => .inl h⟩
theorem Rk.alloc {w W : World} {g : Nat} {V V' : Value} (h : Rk w W g V V') (o : Obj) : Rk w (W.alloc o) g V V' := ⟨h.os, h.tape, h.output, Nat.le_trans h.size (by simp), fun j hj h1 h2 => (Below.heap_alloc W o j (Nat.lt_of_lt_of_le hj h.size)).trans (h.block j hj h1 h2), h.own⟩
theorem Rk.grown {w W W' : World} {g : Nat} {V V' : Value} {row : Option Nat} (h : Rk w W g V V') (hg : W.grownBy W' row) (hr : ∀ j, row = some j → w.heap.size ≤ j) : Rk w W' g V V' :=
  ⟨hg.os.trans h.os, hg.tape.trans h.tape, hg.output.trans h.output, Nat.le_trans h.size hg.size, fun j hj h1 h2 => (hg.block j (Nat.lt_of_lt_of_le hj h.size) (fun e => by have := hr j e.symm; omega)).trans (h.block j hj h1 h2), h.own⟩
theorem Rh.grown {w W : World} {g C : Nat} {V : Value} {Z : List Slp} {row : Option Nat} (h : Rh w g C V Z) (hg : w.grownBy W row) (hr : ∀ j, row = some j → j ≠ g ∧ V.ownBlock ≠ some j) : Rh W g C V Z :=
  ⟨(hg.block g h.box.lt (fun e => (hr g e.symm).1 rfl)).trans h.box, row3_keep h.row (fun j hj => hg.block j (h.row.lt j hj).2 (fun e => (hr j e.symm).2 hj)), h.ne, h.ge⟩
section
variable {w W : World} {g C : Nat} {V : Value} {Z : List Slp}
theorem radd_no (h : Rh w g C V Z) (hn : Z.length ≤ 1000) (x p : Int) (hl : (look x Z).isSome = true) : Calls Try.prog 10 #[.pointer (some ⟨g, 0, none⟩), .int .i64 x, .int .i64 p] w fun e w' => e = .returned (.bool false) ∧ w' = w := by
  have HI := Lib.hid (ridx_any h (by omega) x)
  have e : idxV x Z = (idx x Z : Int) := by unfold idxV; rw [if_pos hl]
  rw [e] at HI
  clear h hl e
  go_enter Try.func10, Try.ntmps10
  go_wp2_with (first | (go_at_call 23; (with_reducible refine (HI.out).mono ?_); rintro _ x1 ⟨rfl, hw⟩; replace hw := hw.symm; subst hw) | fail)
  go_ret
  exact ⟨rfl, rfl⟩
set_option maxHeartbeats 4000000 in
theorem radd_yes (h : Rh w g C V Z) (hC : C ≤ w.heap.size) (hn : Z.length ≤ 1000) (x p : Int) (hl : look x Z = none) : Calls Try.prog 10 #[.pointer (some ⟨g, 0, none⟩), .int .i64 x, .int .i64 p] w fun e w' => ∃ V', e = .returned (.bool true) ∧ Rh w' g C V' (Z ++ [⟨x, p, false⟩]) ∧ Rk w w' g V V' := by
  obtain ⟨i0, hi, hz0, hz1, hz2⟩ := info_parts info52
  have HI := Lib.hid (ridx_any h (by omega) x)
  have e : idxV x Z = -1 := by unfold idxV; rw [hl]; rfl
  rw [e] at HI
  have HH := Lib.hid h
  have c0 := h.c0
  clear h hl e
  go_enter Try.func10, Try.ntmps10
  go_wp2_with (first
    | (go_at_call 23; (with_reducible refine (HI.out).mono ?_); rintro _ x1 ⟨rfl, hw⟩; replace hw := hw.symm; subst hw)
    | (at_builtin
       refine wpList_append_lies _ rfl (.tmp 15) (.tmp 19) 27 rfl C 52 i0 _ 3 24 Try.underlying27 hi hz0 hz1 hz2 rfl (by decide) V Z.length (scells Z) rfl (row3_keep HH.out.row (fun j hj => Below.heap_alloc w _ j (HH.out.row.lt j hj).2)) ⟨w.heap.size, 0, none⟩ 1 1 [.int .i64 x, .int .i64 p, .bool false] rfl rfl (World.news_of_block (cs := #[.int .i64 x, .int .i64 p, .bool false]) (t := 52) (fr := (0, 0)) (Blk.new w 52 _)) (by simp [Value.oneCell']) (by decide) (by unfold maxLen; omega) (by omega) (by simp; omega) _ rfl ?_
       intro n1 k1 w4 hw hg hat hlt
       have HW4 := Lib.hid hw
       have HG4 := Lib.hid hg
       have HAT := Lib.hid hat
       have hb4 : Blk w4 g 29 #[V] := (hg.block g (by have := HH.out.box.lt; simp; omega) (fun e => HH.out.ne e.symm)).trans ((Below.heap_alloc w _ g HH.out.box.lt).trans HH.out.box)
       have HB4 := Lib.hid hb4
       have f4 := hb4.frozen 0
       have c4 := hb4.cell 0
       clear hw hg hat hlt hb4)
    | fail)
  go_ret
  have hgl := HH.out.box.lt
  have hn1 : n1 ≠ g := by
    rcases HAT.out with h | h
    · exact fun e => HH.out.ne (by rw [h, e])
    · simp at h; omega
  have hset : ∀ j, j ≠ g → (w4.setCell ⟨g, 0, none⟩ (.slice (some ⟨n1, 0, none⟩) (Z.length + 1) k1)).heap[j]? = w4.heap[j]? := fun j hj => Below.heap_setCell w4 ⟨g, 0, none⟩ _ j hj
  refine ⟨_, rfl, ⟨HB4.out.set_ 0 _, ?_, fun e => hn1 (Option.some.inj e), HH.out.ge⟩, ⟨HG4.out.os, HG4.out.tape, HG4.out.output, ?_, fun j hj h1 h2 => (hset j h1).trans ((HG4.out.block j (by simp; omega) (fun e => h2 e.symm)).trans (Below.heap_alloc w _ j hj)), fun k hk => ?_⟩⟩
  · rw [scells_append, List.length_append]
    exact row3_keep HW4.out (fun j hj => by cases hj; exact hset n1 hn1)
  · have := HG4.out.size
    simp at this
    simp [World.setCell]; omega
  · cases hk
    rcases HAT.out with h | h
    · exact .inl h
    · right
      show w.heap.size ≤ n1
      simp at h; omega
theorem rwoken_any (h : Rh w g C V Z) (hn : Z.length ≤ 1000) (x : Int) : Calls Try.prog 17 #[.pointer (some ⟨g, 0, none⟩), .int .i64 x] w fun e w' => e = .returned (.bool (wokenB Z x)) ∧ w' = w := by
  have HI := Lib.hid (ridx_any h (by omega) x)
  unfold idxV at HI
  unfold wokenB
  have c0 := h.c0
  cases hl : look x Z with
  | none =>
    rw [hl] at HI
    rw [if_neg (by simp)] at HI
    clear h hl
    go_enter Try.func17, Try.ntmps17
    go_wp2_with (first | (go_at_call 23; (with_reducible refine (HI.out).mono ?_); rintro _ x1 ⟨rfl, hw⟩; replace hw := hw.symm; subst hw) | fail)
    go_ret
    exact ⟨rfl, rfl⟩
  | some s =>
    rw [hl] at HI
    simp only [Option.isSome_some, if_true] at HI
    obtain ⟨h1, h2⟩ := idx_some hl
    obtain ⟨b, cap, rfl, l1, _, _, _, _, d3, _⟩ := h.cellOf h2
    obtain ⟨q, hq⟩ : ∃ q, idx x Z = q := ⟨_, rfl⟩
    rw [hq] at HI h1 d3
    have hqI : (q : Int) < (Z.length : Int) := by omega
    clear h hl h2 hq
    go_enter Try.func17, Try.ntmps17
    go_wp2_with (first | (go_at_call 23; (with_reducible refine (HI.out).mono ?_); rintro _ x1 ⟨rfl, hw⟩; replace hw := hw.symm; subst hw) | fail)
    go_ret
    exact ⟨rfl, rfl⟩
theorem atL_snoc (L : List Slp) (s : Slp) (p : Int) : atL (L ++ [s]) p = if s.place = p then atL L p ++ [s.who] else atL L p := atL_append L s p
set_option maxHeartbeats 4000000 in
theorem rat_any (h : Rh w g C V Z) (hn : Z.length ≤ 1000) (p : Int) : Calls Try.prog 19 #[.pointer (some ⟨g, 0, none⟩), .int .i64 p] w fun e w' => ∃ U, e = .returned U ∧ w'.ownsRow w.heap.size 3 1 U (atL Z p).length (ivs (atL Z p)) ∧ Below w.heap.size w w' := by
  obtain ⟨i0, hi, hz0, hz1, hz2⟩ := info_parts info3
  have HH := Lib.hid h
  have hnI : (Z.length : Int) ≤ 1000 := by omega
  obtain ⟨A, cap, rfl, hcap⟩ := row3_sl h.row
  have H0 := Lib.hid (Below.refl w.heap.size w)
  have c0 := h.c0
  clear h
  go_enter Try.func19, Try.ntmps19
  go_wp2
  go_loopw [5, 6] (fun u i wr => ∃ q : Nat, q ≤ Z.length ∧ i = .int .i64 (q : Int) ∧ Below w.heap.size w wr ∧ wr.ownsRow w.heap.size 3 1 u (atL (Z.take q) p).length (ivs (atL (Z.take q) p))) (fun _ i _ => Z.length - (intOf i).toNat)
  case atStart => exact ⟨0, Nat.zero_le _, rfl, H0.out, World.ownsRow_nil _ _ _ _⟩
  case round =>
    obtain ⟨q, hq, rfl, hb, hr⟩ := hrel
    have HB := Lib.hid hb
    have HR := Lib.hid hr
    have c1 := (HH.out.kept hb).c0
    by_cases hql : q < Z.length
    · obtain ⟨s, hs⟩ : ∃ s, Z[q]? = some s := ⟨Z[q], List.getElem?_eq_getElem _⟩
      obtain ⟨b, cap', e0, _, _, _, d1, d2, _, _⟩ := (HH.out.kept hb).cellOf hs
      cases e0
      have HT := Lib.hid (show Z.take (q + 1) = Z.take q ++ [s] from by rw [List.take_add_one, hs]; rfl)
      have hqI : (q : Int) < (Z.length : Int) := by omega
      have hfl : (atL (Z.take q) p).length ≤ 1000 := by
        have := atL_len (Z.take q) p
        rw [List.length_take] at this
        omega
      obtain ⟨K, hK⟩ : ∃ K, atL (Z.take q) p = K := ⟨_, rfl⟩
      have HKE := Lib.hid hK
      rw [hK] at HR hfl
      obtain ⟨x, y, z⟩ := s
      simp only at d1 d2
      clear hb hr hs hK
      by_cases hp : y = p
      · have hpb : (y == p) = true := by simpa using hp
        have HE := Lib.hid (show atL (Z.take (q + 1)) p = K ++ [x] from by rw [HT.out, atL_snoc, HKE.out, if_pos hp])
        clear hp
        go_wp2_with (first
          | (at_builtin
             refine wpList_append_lies _ rfl (.tmp 26) (.tmp 35) 34 rfl w.heap.size 3 i0 _ 1 8 Try.underlying34 hi hz0 hz1 hz2 rfl (by decide) u5 K.length (ivs K) rfl (row_alloc HR.out _) ⟨wr.heap.size, 0, none⟩ 1 1 [.int .i64 x] rfl rfl (World.news_of_block (cs := #[.int .i64 x]) (t := 3) (fr := (0, 0)) (Blk.new wr 3 _)) (by simp [Value.oneCell']) (by decide) (by unfold maxLen; omega) (by omega) (by have := HB.out.size; simp; omega) _ rfl ?_
             intro n1 k1 w4 hw hg hat hlt
             have HW4 := Lib.hid hw
             have HG4 := Lib.hid hg
             clear hw hg hat hlt)
          | fail)
        have HB4 := Lib.hid ((HB.out.alloc HB.out.size (.cells #[.int .i64 x] 3)).grown HG4.out (by have := HB.out.size; simp; omega) (fun j e => (HR.out.lt j e).1))
        go_roundw
        case rel => exact ⟨q + 1, by omega, by go_num, HB4.out, by rw [HE.out, ivs_snoc, List.length_append]; exact HW4.out⟩
        case measure => simp [intOf]; omega
      · have hpb : (y == p) = false := by simpa using hp
        have HE := Lib.hid (show atL (Z.take (q + 1)) p = K from by rw [HT.out, atL_snoc, HKE.out, if_neg hp])
        clear hp
        go_wp2
        go_roundw
        case rel => exact ⟨q + 1, by omega, by go_num, HB.out, by rw [HE.out]; exact HR.out⟩
        case measure => simp [intOf]; omega
    · obtain rfl : q = Z.length := by omega
      rw [List.take_length] at HR
      clear hb hr
      go_wp2
      go_ret
      exact ⟨_, rfl, HR.out, HB.out⟩
end
theorem freshL_eq (p : Int) (Z0 : List Slp) (h : (Z0.map Slp.who).Nodup) : ∀ Z : List Slp, (∀ s ∈ Z, s ∈ Z0) → freshL Z0 (atL Z p) = (Z.filter fun s => decide (s.place = p) && !s.woken).map Slp.who
  | [], _ => rfl
  | s :: Z, hs => by
    have ih := freshL_eq p Z0 h Z (fun t ht => hs t (List.mem_cons_of_mem _ ht))
    have hw : wokenB Z0 s.who = s.woken := by unfold wokenB; rw [look_some_of h s (hs s List.mem_cons_self) rfl]
    unfold freshL atL at *
    rw [List.filter_cons, List.filter_cons]
    by_cases e : s.place = p
    · rw [if_pos (by simpa using e), List.map_cons, List.filter_cons, hw]
      cases hk : s.woken with
      | true => simp [e]; simpa using ih
      | false => simp [e]; simpa using ih
    · rw [if_neg (by simpa using e), ih]
      simp [e]
/-- Woken, if it sleeps there. -/
def rwk (p : Int) (s : Slp) : Slp := if s.place = p then ⟨s.who, s.place, true⟩ else s
theorem wkF_map : ∀ (l : List Int) (Z : List Slp), wkF Z l = Z.map fun s => if s.who ∈ l then ⟨s.who, s.place, true⟩ else s
  | [], Z => by simp [wkF]
  | x :: l, Z => by
    show wkF (wk1 Z x) l = _
    rw [wkF_map l]
    unfold wk1
    rw [List.map_map]
    apply List.map_congr_left
    intro s _
    show (if (if s.who = x then (⟨s.who, s.place, true⟩ : Slp) else s).who ∈ l then _ else _) = _
    by_cases h1 : s.who = x
    · rw [if_pos h1]
      simp [h1]
    · rw [if_neg h1]
      simp [h1]
theorem wkF_rwk (p : Int) (Z : List Slp) (h : (Z.map Slp.who).Nodup) : wkF Z (atL Z p) = Z.map (rwk p) := by
  rw [wkF_map]
  apply List.map_congr_left
  intro s hs
  unfold rwk
  by_cases e : s.place = p
  · rw [if_pos e, if_pos (e ▸ atL_mem_of hs)]
  · rw [if_neg e, if_neg (fun hm => by
      obtain ⟨t, ht, htw, htp⟩ := atL_mem hm
      have h1 := look_some_of h t ht htw
      have h2 := look_some_of h s hs rfl
      rw [h1] at h2
      cases h2
      exact e htp)]
def rfr (p : Int) (Z : List Slp) : List Int := (Z.filter fun s => decide (s.place = p) && !s.woken).map Slp.who
theorem rfr_snoc (p : Int) (Z : List Slp) (s : Slp) : rfr p (Z ++ [s]) = if (decide (s.place = p) && !s.woken) = true then rfr p Z ++ [s.who] else rfr p Z := by
  unfold rfr
  rw [List.filter_append, List.map_append]
  by_cases e : (decide (s.place = p) && !s.woken) = true
  · rw [if_pos e]
    congr 1
    simp only [List.filter_cons, e, if_true, List.filter_nil, List.map_cons, List.map_nil]
  · rw [if_neg e]
    simp only [List.filter_cons, e, if_false, List.filter_nil, List.map_nil, List.append_nil, Bool.false_eq_true]
/-- The first q are done. -/
def upto (p : Int) (Z : List Slp) (q : Nat) : List Slp := (Z.take q).map (rwk p) ++ Z.drop q
theorem upto_len (p : Int) (Z : List Slp) (q : Nat) : (upto p Z q).length = Z.length := by
  unfold upto
  rw [List.length_append, List.length_map, ← List.length_append, List.take_append_drop]
theorem upto_at {p : Int} {Z : List Slp} {q : Nat} {s : Slp} (h : Z[q]? = some s) : (upto p Z q)[q]? = some s := by
  have hl := (List.getElem?_eq_some_iff.1 h).1
  unfold upto
  rw [List.getElem?_append_right (by rw [List.length_map, List.length_take]; omega), List.length_map, List.length_take, Nat.min_eq_left (by omega), Nat.sub_self, List.getElem?_drop, Nat.add_zero, h]
theorem upto_succ {p : Int} {Z : List Slp} {q : Nat} {s : Slp} (h : Z[q]? = some s) : upto p Z (q + 1) = (upto p Z q).set q (rwk p s) := by
  obtain ⟨hl, rfl⟩ := List.getElem?_eq_some_iff.1 h
  unfold upto
  have h1 : Z.take (q + 1) = Z.take q ++ [Z[q]] := by rw [List.take_add_one, h]; rfl
  have h2 : Z.drop q = Z[q] :: Z.drop (q + 1) := List.drop_eq_getElem_cons hl
  rw [h1, h2, List.map_append, List.set_append_right _ _ (by rw [List.length_map, List.length_take]; omega), List.length_map, List.length_take, Nat.min_eq_left (by omega), Nat.sub_self, List.append_assoc]
  rfl
theorem set_same {Z : List Slp} {q : Nat} {s : Slp} (h : Z[q]? = some s) : Z.set q s = Z := by
  obtain ⟨hl, rfl⟩ := List.getElem?_eq_some_iff.1 h
  exact List.set_getElem_self hl
theorem upto_all (p : Int) (Z : List Slp) : upto p Z Z.length = Z.map (rwk p) := by
  unfold upto
  rw [List.take_length, List.drop_length, List.append_nil]
theorem upto_zero (p : Int) (Z : List Slp) : upto p Z 0 = Z := by unfold upto; simp
section
variable {w W : World} {g C : Nat} {V : Value} {Z : List Slp}
set_option maxHeartbeats 8000000 in
theorem rwake_any (h : Rh w g C V Z) (hn : Z.length ≤ 1000) (p : Int) : Calls Try.prog 13 #[.pointer (some ⟨g, 0, none⟩), .int .i64 p] w fun e w' => ∃ U, e = .returned U ∧ Rh w' g C V (Z.map (rwk p)) ∧ w'.ownsRow w.heap.size 3 1 U (rfr p Z).length (ivs (rfr p Z)) ∧ Rk w w' g V V := by
  obtain ⟨i0, hi, hz0, hz1, hz2⟩ := info_parts info3
  have HH := Lib.hid h
  have hnI : (Z.length : Int) ≤ 1000 := by omega
  obtain ⟨A, cap, rfl, hcap⟩ := row3_sl h.row
  have H0 := Lib.hid (Rk.refl w g (.slice A Z.length cap))
  clear h
  go_enter Try.func13, Try.ntmps13
  go_wp2
  go_loopw [5, 6] (fun u i wr => ∃ q : Nat, q ≤ Z.length ∧ i = .int .i64 (q : Int) ∧ Rh wr g C (.slice A Z.length cap) (upto p Z q) ∧ wr.ownsRow w.heap.size 3 1 u (rfr p (Z.take q)).length (ivs (rfr p (Z.take q))) ∧ Rk w wr g (.slice A Z.length cap) (.slice A Z.length cap)) (fun _ i _ => Z.length - (intOf i).toNat)
  case atStart => exact ⟨0, Nat.zero_le _, rfl, by rw [upto_zero]; exact HH.out, World.ownsRow_nil _ _ _ _, H0.out⟩
  case round =>
    obtain ⟨q, hq, rfl, hh, hr, hk⟩ := hrel
    have H1 := Lib.hid hh
    have HR := Lib.hid hr
    have HK := Lib.hid hk
    have c0 := hh.c0
    by_cases hql : q < Z.length
    · obtain ⟨s, hs⟩ : ∃ s, Z[q]? = some s := ⟨Z[q], List.getElem?_eq_getElem _⟩
      have hul := upto_len p Z q
      obtain ⟨b, cap', e0, _, hbl, hbg, d1, d2, d3, f3⟩ := hh.cellOf (upto_at hs)
      rw [hul] at e0
      cases e0
      have HT := Lib.hid (show Z.take (q + 1) = Z.take q ++ [s] from by rw [List.take_add_one, hs]; rfl)
      have HU := Lib.hid (upto_succ (p := p) hs)
      have HUA := Lib.hid (upto_at (p := p) hs)
      have hqI : (q : Int) < (Z.length : Int) := by omega
      have hfl : (rfr p (Z.take q)).length ≤ 1000 := by
        have h1 : (rfr p (Z.take q)).length ≤ (Z.take q).length := by unfold rfr; rw [List.length_map]; exact List.length_filter_le _ _
        rw [List.length_take] at h1
        omega
      obtain ⟨K, hK⟩ : ∃ K, rfr p (Z.take q) = K := ⟨_, rfl⟩
      have HKE := Lib.hid hK
      rw [hK] at HR hfl
      obtain ⟨x, y, z⟩ := s
      simp only at d1 d2 d3
      clear hh hr hk hs hK hul
      by_cases hp : y = p
      · have hpb : (y == p) = true := by simpa using hp
        cases z with
        | true =>
          have HE := Lib.hid (show rfr p (Z.take (q + 1)) = K from by rw [HT.out, rfr_snoc, HKE.out, if_neg (by simp)])
          have HZ := Lib.hid (show upto p Z (q + 1) = upto p Z q from by rw [HU.out]; unfold rwk; rw [if_pos hp]; exact set_same HUA.out)
          clear hp
          go_wp2
          go_roundw
          case rel => exact ⟨q + 1, by omega, by go_num, by rw [HZ.out]; exact H1.out, by rw [HE.out]; exact HR.out, HK.out⟩
          case measure => simp [intOf]; omega
        | false =>
          have HE := Lib.hid (show rfr p (Z.take (q + 1)) = K ++ [x] from by rw [HT.out, rfr_snoc, HKE.out, if_pos (by simp [hp])])
          have HZ := Lib.hid (show upto p Z (q + 1) = (upto p Z q).set q ⟨x, y, true⟩ from by rw [HU.out]; unfold rwk; rw [if_pos hp])
          have HS := Lib.hid (scells_set _ q _ HUA.out)
          clear hp
          have hne : ¬ g = b := fun e => hbg e.symm
          have hRS : (wr.setCell ⟨b, q * 3 + 2, none⟩ (.bool true)).ownsRow w.heap.size 3 1 u5 K.length (ivs K) := row_keep HR.out (fun j hj => Below.heap_setCell wr ⟨b, q * 3 + 2, none⟩ _ j (fun e => by
            have h1 := (HR.out.lt j hj).1
            have h2 := (HH.out.row.lt b rfl).2
            have e : j = b := e
            omega))
          have HRS := Lib.hid hRS
          have hbx : Blk (wr.setCell ⟨b, q * 3 + 2, none⟩ (.bool true)) g 29 #[.slice (some ⟨b, 0, none⟩) Z.length cap] := (Below.heap_setCell wr ⟨b, q * 3 + 2, none⟩ _ g hne).trans H1.out.box
          have c0s := hbx.cell 0
          have hul := upto_len p Z (q + 1)
          have hul2 := upto_len p Z q
          have hrow0 := H1.out.row
          rw [hul2] at hrow0
          have hrow := row3_set hrow0 (q * 3 + 2) (.bool true)
          rw [HS.out, ← HZ.out] at hrow
          have H2 := Lib.hid (show Rh (wr.setCell ⟨b, q * 3 + 2, none⟩ (.bool true)) g C (.slice (some ⟨b, 0, none⟩) Z.length cap) (upto p Z (q + 1)) from ⟨hbx, by rw [hul]; exact hrow, H1.out.ne, H1.out.ge⟩)
          obtain ⟨_, _, e0, _, _, _, g1, _, _, _⟩ := H2.out.cellOf (show (upto p Z (q + 1))[q]? = some ⟨x, y, true⟩ from by rw [HZ.out, List.getElem?_set_self (by rw [hul2]; exact hql)])
          rw [hul] at e0
          cases e0
          have HKS := Lib.hid (show Rk w (wr.setCell ⟨b, q * 3 + 2, none⟩ (.bool true)) g (.slice (some ⟨b, 0, none⟩) Z.length cap) (.slice (some ⟨b, 0, none⟩) Z.length cap) from ⟨HK.out.os, HK.out.tape, HK.out.output, by have := HK.out.size; simp [World.setCell]; exact this, fun j hj h1 h2 => (Below.heap_setCell wr ⟨b, q * 3 + 2, none⟩ _ j (fun e => h2 (by rw [e]; rfl))).trans (HK.out.block j hj h1 h2), HK.out.own⟩)
          have hsz : (wr.setCell ⟨b, q * 3 + 2, none⟩ (.bool true)).heap.size = wr.heap.size := by simp [World.setCell]
          have HSZ := Lib.hid hsz
          clear hrow hrow0 hul hul2 hbx hRS hsz
          go_wp2_with (first
            | (at_builtin
               refine wpList_append_lies _ rfl (.tmp 44) (.tmp 53) 34 rfl w.heap.size 3 i0 _ 1 8 Try.underlying34 hi hz0 hz1 hz2 rfl (by decide) u5 K.length (ivs K) rfl (row_alloc HRS.out _) ⟨wr.heap.size, 0, none⟩ 1 1 [.int .i64 x] rfl (by rfl) (World.news_of_block (cs := #[.int .i64 x]) (t := 3) (fr := (0, 0)) (by rw [← HSZ.out]; exact Blk.new _ 3 _)) (by simp [Value.oneCell']) (by decide) (by unfold maxLen; omega) (by omega) (by have := HKS.out.size; simp at this ⊢; omega) _ rfl ?_
               intro n1 k1 w4 hw hg hat hlt
               have HW4 := Lib.hid hw
               have HG4 := Lib.hid hg
               clear hw hg hat hlt)
            | fail)
          have H3 := Lib.hid ((H2.out.kept ((Below.refl _ _).alloc (Nat.le_refl _) (.cells #[.int .i64 x] 3))).grown HG4.out (fun j e => by
            have h1 := (HRS.out.lt j e).1
            have h2 := (HH.out.row.lt b rfl).2
            have h3 := HH.out.box.lt
            exact ⟨by omega, fun e2 => by have := Option.some.inj e2; have e3 : b = j := this; omega⟩))
          have HK3 := Lib.hid ((HKS.out.alloc (.cells #[.int .i64 x] 3)).grown HG4.out (fun j e => (HRS.out.lt j e).1))
          go_roundw
          case rel => exact ⟨q + 1, by omega, by go_num, H3.out, by rw [HE.out, ivs_snoc, List.length_append]; exact HW4.out, HK3.out⟩
          case measure => simp [intOf]; omega
      · have hpb : (y == p) = false := by simpa using hp
        have HE := Lib.hid (show rfr p (Z.take (q + 1)) = K from by rw [HT.out, rfr_snoc, HKE.out, if_neg (by simp [hp])])
        have HZ := Lib.hid (show upto p Z (q + 1) = upto p Z q from by rw [HU.out]; unfold rwk; rw [if_neg hp]; exact set_same HUA.out)
        clear hp
        go_wp2
        go_roundw
        case rel => exact ⟨q + 1, by omega, by go_num, by rw [HZ.out]; exact H1.out, by rw [HE.out]; exact HR.out, HK.out⟩
        case measure => simp [intOf]; omega
    · obtain rfl : q = Z.length := by omega
      rw [List.take_length] at HR
      rw [upto_all] at H1
      clear hh hr hk
      go_wp2
      go_ret
      exact ⟨_, rfl, H1.out, HR.out, HK.out⟩
end
end Go.Proofs.Ytgfaegnpogdneaa
