/- An answer turned: its items from the last to the first. -/
import Derived.Test.YtpmgabeefppajaaRi
import Derived.Deep.AppendLies
import Derived.Deep.RegionLaw
namespace Go.Proofs.Ytpmgabeefppajaa
open Go.RowKit
open Go.Lib
set_option linter.unusedVariables false
set_option linter.unusedSimpArgs false
set_option maxRecDepth 100000
abbrev rqV (k e tok ver : Int) (card : ByteArray) (idx : Int) (more : Bool) (v : Value) : Array Value := #[.int .i64 k, .int .i64 e, .int .i64 tok, .int .i64 ver, .string card, .int .i64 idx, .bool more, v]
theorem rev_snoc (xs : List It) (s : Nat) (t : It) (h : xs[s]? = some t) : (xs.drop s).reverse = (xs.drop (s + 1)).reverse ++ [t] := by
  obtain ⟨hs, e⟩ := List.getElem?_eq_some_iff.1 h
  rw [List.drop_eq_getElem_cons hs, List.reverse_cons, e]
theorem Blk.newEq {g : Nat} (w : World) {t : TypeId} {cs : Array Value} (e : g = w.heap.size) : Blk (w.alloc (.cells cs t)) g t cs := e ▸ Blk.new w t cs
theorem own_set {w : World} {base : Nat} {e : TypeId} {k n : Nat} {v : Value} {xs : List Value} (h : w.ownsRow base e k v n xs) {X : Nat} {t : TypeId} {cs : Array Value} (hb : Blk w X t cs) (ht : t ≠ e) (i : Nat) (u : Value) : (w.setCell ⟨X, i, none⟩ u).ownsRow base e k v n xs := by
  obtain ⟨h0, h3 | ⟨b, cap, cur, e1, e2, e3, e4⟩⟩ := h
  · exact ⟨h0, .inl h3⟩
  · refine ⟨h0, .inr ⟨b, cap, cur, e1, e2, ?_, e4⟩⟩
    refine (Below.heap_setCell w ⟨X, i, none⟩ u b (fun hbX => ?_)).trans e3
    have hbX : b = X := hbX
    subst hbX
    unfold Blk at hb
    rw [hb] at e3
    cases e3
    exact ht rfl
theorem own_ne {w : World} {base : Nat} {e : TypeId} {k n : Nat} {v : Value} {xs : List Value} (h : w.ownsRow base e k v n xs) {X : Nat} {t : TypeId} {cs : Array Value} (hb : Blk w X t cs) (ht : t ≠ e) : v.ownBlock ≠ some X := by
  intro ev
  rcases h.2 with ⟨rfl, _⟩ | ⟨g, cap, cur, rfl, _, hgb, _⟩
  · cases ev
  · obtain rfl : g = X := Option.some.inj ev
    unfold Blk at hb
    rw [hgb] at hb
    cases hb
    exact ht rfl
set_option maxHeartbeats 16000000 in
theorem back_any {w : World} {A : Option Addr} {len cap b off : Nat} {xs : List It} (h : Its w A len cap b off xs) (hn : len ≤ 120) (k e tok ver : Int) (card : ByteArray) (idx : Int) (more : Bool) :
    Calls Try.prog 21 #[.agg (rqV k e tok ver card idx more (.slice A len cap))] w fun r w' => ∃ A' cap' b', r = .returned (.agg (rqV k e tok ver card idx more (.slice A' len cap'))) ∧ Its w' A' len cap' b' 0 xs.reverse ∧ (0 < len → w.heap.size ≤ b') ∧ Below w.heap.size w w' := by
  obtain ⟨i0, hi, hz0, hz1, hz2⟩ := info_parts info41
  have HI := Lib.hid h
  have hlen := h.hlen
  have hlc := h.le
  have hnI : (len : Int) ≤ 120 := by omega
  clear h
  obtain ⟨X, hX⟩ : ∃ X, w.heap.size = X := ⟨_, rfl⟩
  obtain ⟨W, hW⟩ : ∃ W, (w.alloc (.cells (rqV k e tok ver card idx more (.slice A len cap)) 35)).alloc (.cells (rqV 0 0 0 0 { data := #[] } 0 false (.slice none 0 0)) 35) = W := ⟨_, rfl⟩
  have HX := Lib.hid (show Blk W X 35 (rqV k e tok ver card idx more (.slice A len cap)) from hX ▸ hW ▸ (Blk.new w 35 _).alloc _)
  have HY := Lib.hid (show Blk W (X + 1) 35 (rqV 0 0 0 0 { data := #[] } 0 false (.slice none 0 0)) from by
    have := Blk.new (w.alloc (.cells (rqV k e tok ver card idx more (.slice A len cap)) 35)) 35 (rqV 0 0 0 0 { data := #[] } 0 false (.slice none 0 0))
    rw [World.size_alloc, hX, hW] at this
    exact this)
  have HBW := Lib.hid (show Below X w W from hX ▸ hW ▸ ((Below.refl _ w).alloc (Nat.le_refl _) _).alloc (by simp) _)
  have HXs := Lib.hid hX.symm
  have x7 := HX.out.cell 7
  have f7 := HX.out.frozen 7
  obtain ⟨W2, hW2⟩ : ∃ W2, W.setCell ⟨X, 7, none⟩ (.slice none 0 0) = W2 := ⟨_, rfl⟩
  have HX2 := Lib.hid (show Blk W2 X 35 (rqV k e tok ver card idx more (.slice none 0 0)) from hW2 ▸ HX.out.set_ 7 _)
  have HY2 := Lib.hid (show Blk W2 (X + 1) 35 (rqV 0 0 0 0 { data := #[] } 0 false (.slice none 0 0)) from hW2 ▸ HY.out.far (p := ⟨X, 7, none⟩) (show X + 1 ≠ X by omega) _)
  have HB2 := Lib.hid (show Below X w W2 from hW2 ▸ HBW.out.setCell (p := ⟨X, 7, none⟩) (Nat.le_refl _) _)
  have hwr0 : IntKind.i64.wrap ((len : Int) - 1) = (len : Int) - 1 := IntWalk.i64_in _ (by omega)
  go_enter Try.func21, Try.ntmps21
  go_wp2
  clear x7 f7 hW hW2 hX
  go_loopw [4] (fun i wr => ∃ (ii : Int) (p q : Nat) (v : Value), ii + 1 = (p : Int) ∧ p + q = len ∧ i = .int .i64 ii ∧ wr.ownsRow X 41 4 v q (itsC (xs.drop p).reverse) ∧ Blk wr X 35 (rqV k e tok ver card idx more v) ∧ Blk wr (X + 1) 35 (rqV 0 0 0 0 { data := #[] } 0 false (.slice none 0 0)) ∧ Below X w wr) (fun i _ => (intOf i + 1).toNat)
  case atStart =>
    refine ⟨(len : Int) - 1, len, 0, _, by omega, by omega, rfl, ?_, HX2.out, HY2.out, HB2.out⟩
    rw [List.drop_eq_nil_of_le (by omega)]
    exact ⟨rfl, .inl ⟨rfl, rfl⟩⟩
  case round =>
    obtain ⟨ii, p, q, v, hip, hpq, rfl, hown, hbx, hby, hbl⟩ := hrel
    have HBX := Lib.hid hbx
    have HBY := Lib.hid hby
    have HBL := Lib.hid hbl
    have HOW := Lib.hid hown
    have HVX := Lib.hid (show v.ownBlock ≠ some X ∧ v.ownBlock ≠ some (X + 1) from ⟨own_ne hown hbx (by decide), own_ne hown hby (by decide)⟩)
    clear hbx hby hbl hown
    cases p with
    | zero =>
      obtain rfl : ii = -1 := by omega
      obtain rfl : q = len := by omega
      obtain ⟨A2, cap2, b2, rfl, h3, h4⟩ := own_its2 (xs := xs.reverse) (w := wr) (base := X) (v := v) (by
        have := HOW.out
        rw [List.drop_zero] at this
        rw [List.length_reverse, hlen]
        exact this)
      rw [List.length_reverse, hlen] at h3 h4
      have HI2 := Lib.hid h3
      have HGE := Lib.hid h4
      have h3' := h3.addr
      clear h3 h4
      have x0 := HBX.out.cell 0
      have x1 := HBX.out.cell 1
      have x2 := HBX.out.cell 2
      have x3 := HBX.out.cell 3
      have x4 := HBX.out.cell 4
      have x5 := HBX.out.cell 5
      have x6 := HBX.out.cell 6
      have x7 := HBX.out.cell 7
      have y0 := HBY.out.cell 0
      have y1 := HBY.out.cell 1
      have y2 := HBY.out.cell 2
      have y3 := HBY.out.cell 3
      have y4 := HBY.out.cell 4
      have y5 := HBY.out.cell 5
      have y6 := HBY.out.cell 6
      have y7 := HBY.out.cell 7
      have e0 := HBY.out.frozen 0
      have e1 := HBY.out.frozen 1
      have e2 := HBY.out.frozen 2
      have e3 := HBY.out.frozen 3
      have e4 := HBY.out.frozen 4
      have e5 := HBY.out.frozen 5
      have e6 := HBY.out.frozen 6
      have e7 := HBY.out.frozen 7
      have HY8 := Lib.hid ((((((((HBY.out.set_ 0 (.int .i64 k)).set_ 1 (.int .i64 e)).set_ 2 (.int .i64 tok)).set_ 3 (.int .i64 ver)).set_ 4 (.string card)).set_ 5 (.int .i64 idx)).set_ 6 (.bool more)).set_ 7 (.slice A2 q cap2))
      have HB8 := Lib.hid ((((((((HBL.out.setCell (p := ⟨X + 1, 0, none⟩) (Nat.le_succ X) (.int .i64 k)).setCell (p := ⟨X + 1, 1, none⟩) (Nat.le_succ X) (.int .i64 e)).setCell (p := ⟨X + 1, 2, none⟩) (Nat.le_succ X) (.int .i64 tok)).setCell (p := ⟨X + 1, 3, none⟩) (Nat.le_succ X) (.int .i64 ver)).setCell (p := ⟨X + 1, 4, none⟩) (Nat.le_succ X) (.string card)).setCell (p := ⟨X + 1, 5, none⟩) (Nat.le_succ X) (.int .i64 idx)).setCell (p := ⟨X + 1, 6, none⟩) (Nat.le_succ X) (.bool more)).setCell (p := ⟨X + 1, 7, none⟩) (Nat.le_succ X) (.slice A2 q cap2))
      obtain ⟨w8, hw8⟩ : ∃ w8, ((((((((wr.setCell ⟨X + 1, 0, none⟩ (.int .i64 k)).setCell ⟨X + 1, 1, none⟩ (.int .i64 e)).setCell ⟨X + 1, 2, none⟩ (.int .i64 tok)).setCell ⟨X + 1, 3, none⟩ (.int .i64 ver)).setCell ⟨X + 1, 4, none⟩ (.string card)).setCell ⟨X + 1, 5, none⟩ (.int .i64 idx)).setCell ⟨X + 1, 6, none⟩ (.bool more)).setCell ⟨X + 1, 7, none⟩ (.slice A2 q cap2)) = w8 := ⟨_, rfl⟩
      have hne2 : 0 < q → b2 ≠ X + 1 := fun hl e => by
        have := (h3' hl).1
        rw [this] at HVX
        exact HVX.out.2 (by rw [e]; rfl)
      have HI8 := Lib.hid (show Its w8 A2 q cap2 b2 0 xs.reverse from hw8 ▸ HI2.out.keep (by simp [World.setCell]) (fun hl => by
        have hb := hne2 hl
        rw [Below.heap_setCell _ _ _ _ hb, Below.heap_setCell _ _ _ _ hb, Below.heap_setCell _ _ _ _ hb, Below.heap_setCell _ _ _ _ hb, Below.heap_setCell _ _ _ _ hb, Below.heap_setCell _ _ _ _ hb, Below.heap_setCell _ _ _ _ hb, Below.heap_setCell _ _ _ _ hb]))
      rw [hw8] at HY8 HB8
      clear hne2
      go_wp2
      try rw [hw8]
      exact bodyPost_ret (results_cell_row (fn := Try.f21) rfl _ w8 (X + 1) 35 _ (0, 0) _ rfl HY8.out Try.underlying35 rfl (by kernel_rfl)) rfl ⟨A2, cap2, b2, rfl, HI8.out, fun hl => HXs.out ▸ HGE.out hl, HXs.out ▸ HB8.out⟩
    | succ s =>
      obtain rfl : ii = (s : Int) := by omega
      obtain ⟨t, ht⟩ : ∃ t, xs[s]? = some t := ⟨xs[s]'(by omega), List.getElem?_eq_getElem _⟩
      obtain ⟨rfl, hbl⟩ := HI.out.addr (by omega)
      obtain ⟨c0, c1, c2, c3⟩ := (HI.out.below HBL.out (fun _ => HXs.out ▸ hbl)).cell s t ht
      have HRS := Lib.hid (rev_snoc xs s t ht)
      obtain ⟨tu, tv, tx, tc⟩ := t
      simp only at c0 c1 c2 c3
      clear ht hbl
      have hsI : (s : Int) < 120 := by omega
      have hs2 : s < len := by omega
      have hq2 : (q : Int) ≤ 120 := by omega
      have hwr : IntKind.i64.wrap ((s : Int) - 1) = (s : Int) - 1 := IntWalk.i64_in _ (by omega)
      have x7 := HBX.out.cell 7
      have f7 := HBX.out.frozen 7
      have x7b := (HBX.out.alloc (.cells #[.string tu, .int .i64 tv, .bool tx, .string tc] 41)).cell 7
      have HS := Lib.hid (Nat.le_of_lt HBX.out.lt)
      have HIC := Lib.hid (show itsC (xs.drop s).reverse = itsC (xs.drop (s + 1)).reverse ++ [.string tu, .int .i64 tv, .bool tx, .string tc] by rw [HRS.out, itsC_snoc]; rfl)
      go_wp2_with fail
      go_region_law (first
               | (refine step_append_lies _ rfl (.tmp 16) (.tmp 21) 28 rfl X 41 i0 _ 4 48 Try.underlying28 hi hz0 hz1 hz2 rfl (by decide) v q (itsC (xs.drop (s + 1)).reverse) rfl ?_ ⟨wr.heap.size, 0, none⟩ 1 1 [.string tu, .int .i64 tv, .bool tx, .string tc] rfl rfl (World.news_of_block (cs := #[.string tu, .int .i64 tv, .bool tx, .string tc]) (t := 41) (fr := (0, 0)) ?_) (by simp [Value.oneCell']) (by decide) (by unfold maxLen; omega) (by omega) ?_ _ rfl ?_
                  focus (refine own_below HOW.out ?_; (repeat (first | with_reducible exact Below.refl _ _ | with_reducible refine Below.drew ?_ | with_reducible refine Below.alloc ?_ (by simp) _)); done)
                  focus (change Blk _ _ 41 #[.string tu, .int .i64 tv, .bool tx, .string tc]; (repeat (first | ((with_reducible refine Blk.newEq _ ?_); focus (simp; done)) | with_reducible refine Blk.alloc ?_ _ | with_reducible refine Blk.drew ?_)); done)
                  focus (refine Nat.le_trans HS.out (Below.size (B := X) (w := wr) ?_); (repeat (first | with_reducible exact Below.refl _ _ | with_reducible refine Below.drew ?_ | with_reducible refine Below.alloc ?_ HS.out _)); done)
                  intro g' cap' w5 hown' hgrow hor hlt
                  have HO5 := Lib.hid hown'
                  have HB5 := Lib.hid (show Below X wr w5 from by
                    refine Below.grown (show Below X wr _ from ?_) hgrow ?_ (fun j e => (HOW.out.lt j e).1)
                    focus ((repeat (first | with_reducible exact Below.refl _ _ | with_reducible refine Below.drew ?_ | with_reducible refine Below.alloc ?_ HS.out _)); done)
                    focus (refine Nat.le_trans HS.out (Below.size (B := X) (w := wr) ?_); (repeat (first | with_reducible exact Below.refl _ _ | with_reducible refine Below.drew ?_ | with_reducible refine Below.alloc ?_ HS.out _)); done))
                  have HX5 := Lib.hid (Blk.grown (show Blk _ X 35 (rqV k e tok ver card idx more v) from by (repeat (first | with_reducible exact HBX.out | with_reducible refine Blk.alloc ?_ _ | with_reducible refine Blk.drew ?_))) hgrow (fun e => HVX.out.1 e.symm))
                  have HY5 := Lib.hid (Blk.grown (show Blk _ (X + 1) 35 (rqV 0 0 0 0 { data := #[] } 0 false (.slice none 0 0)) from by (repeat (first | with_reducible exact HBY.out | with_reducible refine Blk.alloc ?_ _ | with_reducible refine Blk.drew ?_))) hgrow (fun e => HVX.out.2 e.symm))
                  have z7 := HX5.out.cell 7
                  have fz7 := HX5.out.frozen 7
                  clear hown' hgrow hor hlt)
               | fail)
      all_goals (
        go_wp2
        go_roundw
        case rel => exact ⟨(s : Int) - 1, s, q + 1, _, by omega, by omega, by go_num, HIC.out ▸ own_set HO5.out HX5.out (by decide) 7 _, HX5.out.set_ 7 _, HY5.out.far (p := ⟨X, 7, none⟩) (show X + 1 ≠ X by omega) _, (HBL.out.trans HB5.out).setCell (p := ⟨X, 7, none⟩) (Nat.le_refl _) _⟩
        case measure => simp [intOf])
end Go.Proofs.Ytpmgabeefppajaa
