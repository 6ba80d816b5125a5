/- RegPlays: the reference's registry: Add. -/
import Derived.Test.YtlfjhbfhnlclpaaMc
import Derived.Test.YtlfjhbfhnlclpaaRin
import Derived.Deep.DeepMust
namespace Go.Proofs.Ytlfjhbfhnlclpaa
open Go.RowKit
open Go.Lib
open Go.ChangeShapes Go.ChangeAt
set_option linter.unusedVariables false
set_option linter.unusedSimpArgs false
set_option maxRecDepth 100000
/-- The blocks of the rows. -/
def rowsAt (Ak : Option Addr) (nL ck : Nat) (Av : Option Addr) (cv : Nat) (j : Nat) : Prop := (Value.slice Ak nL ck).ownBlock = some j ∨ (Value.slice Av nL cv).ownBlock = some j
/-- Behind a call of the reference's registry. -/
def Rw (w w' : World) (B o : Nat) (n : Int) (nL : Nat) (Ak : Option Addr) (ck : Nat) (Av : Option Addr) (cv : Nat) (L' : LN) : Prop := ∃ nL' Ak' ck' Av' cv', Ro w' B o n nL' Ak' ck' Av' cv' L' ∧ Fx w w' [o] ∧ ON.KeepN w w' ∧ ∀ j, rowsAt Ak' nL' ck' Av' cv' j → rowsAt Ak nL ck Av cv j ∨ w.heap.size ≤ j
theorem infoI3 : (Try.prog.info? 3).map (fun i => (i.zero, i.size, i.bytes)) = some (some (.int .i64 0), 1, 8) := by kernel_rfl
theorem row_two {w w' : World} {B B' : Nat} {e e' : TypeId} {k n k' n' : Nat} {v v' : Value} {xs xs' : List Value} (h : w.ownsRow B e k v n xs) (h2 : w.ownsRow B' e' k' v' n' xs') (hne : e ≠ e') (hg : w.grownBy w' v'.ownBlock) : w'.ownsRow B e k v n xs := by
  obtain ⟨h0, h3 | ⟨b, cap, cur, rfl, e2, e3, e4⟩⟩ := h
  · exact ⟨h0, .inl h3⟩
  · refine ⟨h0, .inr ⟨b, cap, cur, rfl, e2, blk_row (t := e) (e := e') e3 h2 hne hg, e4⟩⟩
theorem row_two' {w w' : World} {B B' : Nat} {e e' : TypeId} {k n k' n' : Nat} {v v' : Value} {xs xs' : List Value} (h : w.ownsRow B e k v n xs) (h2 : w.ownsRow B' e' k' v' n' xs') (hne : e ≠ e') (hP : ∀ b t cs, Blk w b t cs → v'.ownBlock ≠ some b → Blk w' b t cs) : w'.ownsRow B e k v n xs := by
  obtain ⟨h0, h3 | ⟨b, cap, cur, rfl, e2, e3, e4⟩⟩ := h
  · exact ⟨h0, .inl h3⟩
  · refine ⟨h0, .inr ⟨b, cap, cur, rfl, e2, hP b e cur e3 (fun eq => ?_), e4⟩⟩
    rcases h2.2 with ⟨rfl, _⟩ | ⟨g, cap', cur', rfl, _, hgb, _⟩
    · cases eq
    · obtain rfl : g = b := Option.some.inj eq
      rw [hgb] at e3
      cases e3
      exact hne rfl
theorem row_sl {w : World} {B m : Nat} {e : TypeId} {V : Value} {vs : List Value} (h : w.ownsRow B e 1 V m vs) : ∃ A c, V = .slice A m c := by
  obtain ⟨h0, ⟨rfl, e⟩ | ⟨b, cap, cur, e1, _⟩⟩ := h
  · exact ⟨none, 0, by rw [e]⟩
  · exact ⟨_, cap, e1⟩
theorem row_setO {W : World} {base k n B j : Nat} {e t : TypeId} {u w : Value} {cs : Array Value} {zs : List Value} (h : W.ownsRow base e k u n zs) (hb : Blk W B t cs) (hne : t ≠ e) : (W.setCell ⟨B, j, none⟩ w).ownsRow base e k u n zs := by
  obtain ⟨h0, h3 | ⟨b, cap, cur, rfl, e2, e3, e4⟩⟩ := h
  · exact ⟨h0, .inl h3⟩
  · refine ⟨h0, .inr ⟨b, cap, cur, rfl, e2, (Below.heap_setCell W ⟨B, j, none⟩ w b (fun e' => ?_)).trans e3, e4⟩⟩
    have e' : b = B := e'
    subst e'
    unfold Blk at hb
    rw [hb] at e3
    cases e3
    exact hne rfl
section
variable {w w1 w' : World} {B o nL ck cv : Nat} {n : Int} {Ak Av : Option Addr} {L L' : LN}
theorem Rw.pre (hb : Below w.heap.size w w1) (h : Rw w1 w' B o n nL Ak ck Av cv L') : Rw w w' B o n nL Ak ck Av cv L' := by
  obtain ⟨nL', Ak', ck', Av', cv', h1, h2, h3, h4⟩ := h
  exact ⟨nL', Ak', ck', Av', cv', h1, (Fx.of hb).trans h2 (fun j hj => .inl hj), (ON.KeepN.of hb).trans h3, fun j hj => (h4 j hj).imp id (fun e => Nat.le_trans hb.size e)⟩
/-- The struct set anew, to rows that are new. -/
theorem Ro.anew (h : Ro w1 B o n nL Ak ck Av cv L) {W : World} (F : Fr w1 W) (hs : Srt L') {V5 V6 : Value} {m : Nat} (hm : L'.length = m) (o5 : W.ownsRow w1.heap.size 9 1 V5 m (svs (keysL L'))) (o6 : W.ownsRow w1.heap.size 3 1 V6 m (ivs (valsL L'))) :
    Rw w1 ((W.setCell ⟨o, 1, none⟩ V5).setCell ⟨o, 2, none⟩ V6) B o n nL Ak ck Av cv L' := by
  have e1 : (svs (keysL L')).length = m := by rw [keysL_len', hm]
  have e2 : (ivs (valsL L')).length = m := by rw [valsL_len', hm]
  have q1 := o5
  have q2 := o6
  rw [← e1] at q1
  rw [← e2] at q2
  obtain ⟨A1, c1, g1, rfl, _⟩ := sv_row q1
  obtain ⟨A2, c2, g2, rfl, _⟩ := sv_row q2
  rw [e1] at o5 ⊢
  rw [e2] at o6 ⊢
  have hb := (h.below F.bel).box
  have hb2 := hb.set_ 1 (.slice A1 m c1)
  have r1 : ∀ {e : TypeId} {u : Value} {zs : List Value}, (48 : TypeId) ≠ e → W.ownsRow w1.heap.size e 1 u m zs → ((W.setCell ⟨o, 1, none⟩ (.slice A1 m c1)).setCell ⟨o, 2, none⟩ (.slice A2 m c2)).ownsRow w1.heap.size e 1 u m zs := fun hne hr => row_setO (row_setO hr hb hne) hb2 hne
  refine ⟨m, A1, c1, A2, c2, ⟨hb2.set_ 2 _, row_down h.bs (r1 (by decide) o5), row_down h.bs (r1 (by decide) o6), hm, h.ge, ?_, hs⟩, ⟨F.bel.os, F.bel.tape, F.bel.output, ?_, fun j hj hn => ?_⟩, ((ON.KeepN.of F.bel).trans (ON.KeepN.set hb (by decide) 1 _)).trans (ON.KeepN.set hb2 (by decide) 2 _), fun j hj => ?_⟩
  · have := F.le
    simp [World.setCell]
    exact Nat.le_trans h.bs this
  · have := F.le
    simpa [World.setCell] using this
  · have hne : j ≠ o := fun e => hn (by simp [e])
    rw [Below.heap_setCell _ ⟨o, 2, none⟩ _ j hne, Below.heap_setCell _ ⟨o, 1, none⟩ _ j hne]
    exact F.bel.block j hj
  · rcases hj with e | e
    · exact .inr (o5.lt j e).1
    · exact .inr (o6.lt j e).1
theorem ins_rows {x : ByteArray} {v : Int} {pk : Nat} (hs : Srt L) (hp : lplace x (keysL L) = (pk, false)) (hl : L.length = nL) (hpk : pk ≤ nL) : svs (keysL (insL x v L)) = (svs (keysL L)).take pk ++ [.string x] ++ (svs (keysL L)).drop pk ∧ ivs (valsL (insL x v L)) = (ivs (valsL L)).take pk ++ [.int .i64 v] ++ (ivs (valsL L)).drop pk ∧ (insL x v L).length = pk + 1 + (nL - pk) := by
  have h2 := (lplace_all (x := x) v hs).2.1
  rw [hp] at h2
  simp only [Bool.false_eq_true, if_false] at h2
  refine ⟨?_, ?_, ?_⟩
  · rw [h2, keysL_ins]
    unfold svs
    simp [List.map_take, List.map_drop]
  · rw [h2, valsL_ins]
    unfold ivs
    simp [List.map_take, List.map_drop]
  · rw [h2]
    simp only [List.length_append, List.length_cons, List.length_take, List.length_drop]
    omega
theorem del_rows {x : ByteArray} {pk : Nat} (hs : Srt L) (hp : lplace x (keysL L) = (pk, true)) (hl : L.length = nL) (hpk : pk < nL) : svs (keysL (delL x L)) = (svs (keysL L)).take pk ++ (svs (keysL L)).drop (pk + 1) ∧ ivs (valsL (delL x L)) = (ivs (valsL L)).take pk ++ (ivs (valsL L)).drop (pk + 1) ∧ (delL x L).length = pk + (nL - (pk + 1)) := by
  have h3 := (lplace_all (x := x) 0 hs).2.2.1
  rw [hp] at h3
  simp only [if_true] at h3
  refine ⟨?_, ?_, ?_⟩
  · rw [h3, keysL_del]
    unfold svs
    simp [List.map_take, List.map_drop]
  · rw [h3, valsL_del]
    unfold ivs
    simp [List.map_take, List.map_drop]
  · rw [h3, erase_cut]
    simp only [List.length_append, List.length_take, List.length_drop]
    omega
end
section
variable {w w' : World} {B o nL ck cv : Nat} {n : Int} {Ak Av : Option Addr} {L : LN}
theorem Ro.same (h : Ro w B o n nL Ak ck Av cv L) (hb : Below w.heap.size w w') : Rw w w' B o n nL Ak ck Av cv L := ⟨nL, Ak, ck, Av, cv, h.below hb, Fx.of hb, ON.KeepN.of hb, fun j hj => .inl hj⟩
set_option maxHeartbeats 8000000 in
theorem radd_any (h : Ro w B o n nL Ak ck Av cv L) (hn : nL ≤ 500) (x : ByteArray) (v : Int) (ok : Bool) (L' : LN) (ha : addO x v L = (ok, L')) :
    Calls Try.prog 12 #[.pointer (some ⟨o, 0, none⟩), .string x, .int .i64 v] w fun e w' => e = .returned (.bool ok) ∧ Rw w w' B o n nL Ak ck Av cv L' := by
  obtain ⟨i9, h90, h91, h92, h93⟩ := info_parts infoS9
  obtain ⟨i3, h30, h31, h32, h33⟩ := info_parts infoI3
  obtain ⟨⟨pk, pb⟩, hp⟩ : ∃ r, lplace x (keysL L) = r := ⟨_, rfl⟩
  have HA := Lib.hid (at_any h (by omega) x pk pb hp)
  have H := Lib.hid h
  have hnI : (nL : Int) ≤ 500 := by omega
  cases pb with
  | true =>
    obtain ⟨u, h1, h2, h3⟩ := h.some_at hp
    obtain ⟨rfl, rfl⟩ : ok = false ∧ L' = L := by unfold addO at ha; rw [if_pos (.inr (by rw [h3]; rfl))] at ha; cases ha; exact ⟨rfl, rfl⟩
    clear h hp h1 h3 ha
    go_enter Try.func12, Try.ntmps12
    go_wp2_with fail
    refine HA.out.mono ?_
    rintro _ w1 ⟨rfl, hb⟩
    have HB := Lib.hid hb
    clear hb
    go_wp2
    go_ret
    exact ⟨rfl, H.out.same HB.out⟩
  | false =>
    have hg := h.no_at hp
    by_cases h0 : v < 0
    · obtain ⟨rfl, rfl⟩ : ok = false ∧ L' = L := by unfold addO at ha; rw [if_pos (.inl h0)] at ha; cases ha; exact ⟨rfl, rfl⟩
      clear h hp ha hg
      go_enter Try.func12, Try.ntmps12
      go_wp2_with fail
      refine HA.out.mono ?_
      rintro _ w1 ⟨rfl, hb⟩
      have HB := Lib.hid hb
      clear hb
      go_wp2
      go_ret
      exact ⟨rfl, H.out.same HB.out⟩
    · obtain ⟨rfl, rfl⟩ : ok = true ∧ L' = insL x v L := by unfold addO at ha; rw [if_neg (by rw [hg]; simp; omega)] at ha; cases ha; exact ⟨rfl, rfl⟩
      have hpk := h.pk_le hp
      have HPP := Lib.hid hp
      clear h hp ha hg
      go_enter Try.func12, Try.ntmps12
      go_wp2_with fail
      refine HA.out.mono ?_
      rintro _ w1 ⟨rfl, hb⟩
      have HB := Lib.hid hb
      have H1 := Lib.hid (H.out.below hb)
      clear hb
      --MARK
      go_wp2_with fail
      obtain ⟨gk, hsk⟩ := sv_of H1.out.kr (by rw [keysL_len', H1.out.hl])
      obtain ⟨gv, hsv⟩ := sv_of H1.out.vr (by rw [valsL_len', H1.out.hl])
      have HSK := Lib.hid hsk
      have HSV := Lib.hid hsv
      have HLK := Lib.hid (show (svs (keysL L)).length = nL by rw [keysL_len', H1.out.hl])
      have HLV := Lib.hid (show (ivs (valsL L)).length = nL by rw [valsL_len', H1.out.hl])
      have hpc : pk ≤ ck := by have := hsk.1; rw [HLK.out] at this; omega
      have hpv : pk ≤ cv := by have := hsv.1; rw [HLV.out] at this; omega
      have hc1 := cutk_to Ak nL ck pk hpc
      have hc2 := cutv_to Av nL cv pk hpv
      have HC := Lib.hid (fun (W : World) (hF : Fr w1 W) => (⟨(H1.out.below hF).box.cell 1, (H1.out.below hF).box.cell 2⟩ : W.cell? ⟨o, 1, none⟩ = some (.slice Ak nL ck) ∧ W.cell? ⟨o, 2, none⟩ = some (.slice Av nL cv)))
      have HF0 := Lib.hid (Fr.drew (Fr.refl w1))
      clear hsk hsv
      refine wp_region_E [([], fun w' => w'.cell? ⟨o, 1, none⟩ = some (.slice Ak nL ck)), ([], fun w' => w'.cell? ⟨o, 2, none⟩ = some (.slice Av nL cv))] (by kernel_rfl) ⟨fun _ => (HC.out _ HF0.out).1, fun _ => (HC.out _ HF0.out).2, trivial⟩ (fun hHeld => ?_)
      refine wpAnyE_take (i := 0) (v := ?_) rfl (by kernel_rfl) (by kernel_rfl) (by kernel_rfl) (by kernel_rfl) (fun _ _ _ h => h) (Or.inl ⟨by rfl, ?_⟩) hHeld (fun hHeld => ?_)
      rotate_left
      · (intro w hSw; (try dsimp only at hSw); (try simp only [List.getElem_toArray, List.getElem_cons_succ, List.getElem_cons_zero]); go_simp; try with_reducible rfl)
      try simp only [List.getElem_toArray, List.getElem_cons_succ, List.getElem_cons_zero, Act.put, List.setIfInBounds_toArray, List.set_cons_zero, List.set_cons_succ]
      refine wpAnyE_take (i := 1) (v := ?_) rfl (by kernel_rfl) (by kernel_rfl) (by kernel_rfl) (by kernel_rfl) (fun _ _ _ h => h) (Or.inl ⟨by rfl, ?_⟩) hHeld (fun hHeld => ?_)
      rotate_left
      · (intro w hSw; (try dsimp only at hSw); (try simp only [List.getElem_toArray, List.getElem_cons_succ, List.getElem_cons_zero]); go_simp; try with_reducible rfl)
      try simp only [List.getElem_toArray, List.getElem_cons_succ, List.getElem_cons_zero, Act.put, List.setIfInBounds_toArray, List.set_cons_zero, List.set_cons_succ]
      refine wpAnyE_take (i := 2) (v := ?_) rfl (by kernel_rfl) (by kernel_rfl) (by kernel_rfl) (by kernel_rfl) (fun _ _ _ h => h) (Or.inl ⟨by rfl, ?_⟩) hHeld (fun hHeld => ?_)
      rotate_left
      · (intro w hSw; (try dsimp only at hSw); (try simp only [List.getElem_toArray, List.getElem_cons_succ, List.getElem_cons_zero]); go_simp; try with_reducible rfl)
      try simp only [List.getElem_toArray, List.getElem_cons_succ, List.getElem_cons_zero, Act.put, List.setIfInBounds_toArray, List.set_cons_zero, List.set_cons_succ]
      refine wpAnyE_take (i := 3) (v := ?_) rfl (by kernel_rfl) (by kernel_rfl) (by kernel_rfl) (by kernel_rfl) (fun _ _ _ h => h) (Or.inl ⟨by rfl, ?_⟩) hHeld (fun hHeld => ?_)
      rotate_left
      · (intro w hSw; (try dsimp only at hSw); (try simp only [List.getElem_toArray, List.getElem_cons_succ, List.getElem_cons_zero]); go_simp; try with_reducible rfl)
      try simp only [List.getElem_toArray, List.getElem_cons_succ, List.getElem_cons_zero, Act.put, List.setIfInBounds_toArray, List.set_cons_zero, List.set_cons_succ]
      refine wpAnyE_load (i := 4) _ _ (v := ?_) rfl (by kernel_rfl) List.mem_cons_self (by kernel_rfl) (by kernel_rfl) (by kernel_rfl) (by kernel_rfl) (fun _ _ _ h => h) (Or.inl ⟨by rfl, ?_⟩) hHeld (fun hHeld => ?_)
      rotate_left
      · (intro w hSw; (try dsimp only at hSw); (try simp only [List.getElem_toArray, List.getElem_cons_succ, List.getElem_cons_zero]); go_simp; try with_reducible rfl)
      try simp only [List.getElem_toArray, List.getElem_cons_succ, List.getElem_cons_zero, Act.put, List.setIfInBounds_toArray, List.set_cons_zero, List.set_cons_succ]
      refine wpAnyE_take (i := 5) (v := ?_) rfl (by kernel_rfl) (by kernel_rfl) (by kernel_rfl) (by kernel_rfl) (fun _ _ _ h => h) (Or.inl ⟨by rfl, ?_⟩) hHeld (fun hHeld => ?_)
      rotate_left
      · (intro w hSw; (try dsimp only at hSw); (try simp only [List.getElem_toArray, List.getElem_cons_succ, List.getElem_cons_zero]); go_simp; try with_reducible rfl)
      try simp only [List.getElem_toArray, List.getElem_cons_succ, List.getElem_cons_zero, Act.put, List.setIfInBounds_toArray, List.set_cons_zero, List.set_cons_succ]
      refine wpAnyE_take (i := 6) (v := ?_) rfl (by kernel_rfl) (by kernel_rfl) (by kernel_rfl) (by kernel_rfl) (fun _ _ _ h => h) (Or.inl ⟨by rfl, ?_⟩) hHeld (fun hHeld => ?_)
      rotate_left
      · (intro w hSw; (try dsimp only at hSw); (try simp only [List.getElem_toArray, List.getElem_cons_succ, List.getElem_cons_zero]); go_simp; try with_reducible rfl)
      try simp only [List.getElem_toArray, List.getElem_cons_succ, List.getElem_cons_zero, Act.put, List.setIfInBounds_toArray, List.set_cons_zero, List.set_cons_succ]
      refine wpAnyE_take (i := 8) (v := ?_) rfl (by kernel_rfl) (by kernel_rfl) (by kernel_rfl) (by kernel_rfl) (fun _ _ _ h => h) (Or.inl ⟨by rfl, ?_⟩) hHeld (fun hHeld => ?_)
      rotate_left
      · (intro w hSw; (try dsimp only at hSw); (try simp only [List.getElem_toArray, List.getElem_cons_succ, List.getElem_cons_zero]); go_simp; try with_reducible rfl)
      try simp only [List.getElem_toArray, List.getElem_cons_succ, List.getElem_cons_zero, Act.put, List.setIfInBounds_toArray, List.set_cons_zero, List.set_cons_succ]
      refine wpAnyE_take (i := 9) (v := ?_) rfl (by kernel_rfl) (by kernel_rfl) (by kernel_rfl) (by kernel_rfl) (fun _ _ _ h => h) (Or.inl ⟨by rfl, ?_⟩) hHeld (fun hHeld => ?_)
      rotate_left
      · (intro w hSw; (try dsimp only at hSw); (try simp only [List.getElem_toArray, List.getElem_cons_succ, List.getElem_cons_zero]); go_simp; try with_reducible rfl)
      try simp only [List.getElem_toArray, List.getElem_cons_succ, List.getElem_cons_zero, Act.put, List.setIfInBounds_toArray, List.set_cons_zero, List.set_cons_succ]
      refine wpAnyE_take (i := 10) (v := ?_) rfl (by kernel_rfl) (by kernel_rfl) (by kernel_rfl) (by kernel_rfl) (fun _ _ _ h => h) (Or.inl ⟨by rfl, ?_⟩) hHeld (fun hHeld => ?_)
      rotate_left
      · (intro w hSw; (try dsimp only at hSw); (try simp only [List.getElem_toArray, List.getElem_cons_succ, List.getElem_cons_zero]); go_simp; try with_reducible rfl)
      try simp only [List.getElem_toArray, List.getElem_cons_succ, List.getElem_cons_zero, Act.put, List.setIfInBounds_toArray, List.set_cons_zero, List.set_cons_succ]
      refine wpAnyE_take (i := 11) (v := ?_) rfl (by kernel_rfl) (by kernel_rfl) (by kernel_rfl) (by kernel_rfl) (fun _ _ _ h => h) (Or.inl ⟨by rfl, ?_⟩) hHeld (fun hHeld => ?_)
      rotate_left
      · (intro w hSw; (try dsimp only at hSw); (try simp only [List.getElem_toArray, List.getElem_cons_succ, List.getElem_cons_zero]); go_simp; try with_reducible rfl)
      try simp only [List.getElem_toArray, List.getElem_cons_succ, List.getElem_cons_zero, Act.put, List.setIfInBounds_toArray, List.set_cons_zero, List.set_cons_succ]
      refine wpAnyE_load (i := 12) _ _ (v := ?_) rfl (by kernel_rfl) (List.mem_cons_of_mem _ List.mem_cons_self) (by kernel_rfl) (by kernel_rfl) (by kernel_rfl) (by kernel_rfl) (fun _ _ _ h => h) (Or.inl ⟨by rfl, ?_⟩) hHeld (fun hHeld => ?_)
      rotate_left
      · (intro w hSw; (try dsimp only at hSw); (try simp only [List.getElem_toArray, List.getElem_cons_succ, List.getElem_cons_zero]); go_simp; try with_reducible rfl)
      try simp only [List.getElem_toArray, List.getElem_cons_succ, List.getElem_cons_zero, Act.put, List.setIfInBounds_toArray, List.set_cons_zero, List.set_cons_succ]
      refine wpAnyE_take (i := 13) (v := ?_) rfl (by kernel_rfl) (by kernel_rfl) (by kernel_rfl) (by kernel_rfl) (fun _ _ _ h => h) (Or.inl ⟨by rfl, ?_⟩) hHeld (fun hHeld => ?_)
      rotate_left
      · (intro w hSw; (try dsimp only at hSw); (try simp only [List.getElem_toArray, List.getElem_cons_succ, List.getElem_cons_zero]); go_simp; try with_reducible rfl)
      try simp only [List.getElem_toArray, List.getElem_cons_succ, List.getElem_cons_zero, Act.put, List.setIfInBounds_toArray, List.set_cons_zero, List.set_cons_succ]
      refine wpAnyE_take (i := 14) (v := ?_) rfl (by kernel_rfl) (by kernel_rfl) (by kernel_rfl) (by kernel_rfl) (fun _ _ _ h => h) (Or.inl ⟨by rfl, ?_⟩) hHeld (fun hHeld => ?_)
      rotate_left
      · (intro w hSw; (try dsimp only at hSw); (try simp only [List.getElem_toArray, List.getElem_cons_succ, List.getElem_cons_zero]); go_simp; try with_reducible rfl)
      try simp only [List.getElem_toArray, List.getElem_cons_succ, List.getElem_cons_zero, Act.put, List.setIfInBounds_toArray, List.set_cons_zero, List.set_cons_succ]
      refine wpAnyE_ready (rs := [7]) (by kernel_rfl) (by simp) (AllE.cons rfl (fun K hK => ?_) AllE.nil)
      clear hHeld
      refine step_fr_append (w0 := w1) _ rfl (.tmp 22) (.tmp 28) 37 rfl 9 i9 _ 16 Try.underlying37 h90 h91 h92 h93 rfl (Value.slice none 0 0) 0 [] rfl HF0.out ⟨rfl, .inl ⟨rfl, rfl⟩⟩ Ak pk ck ((svs (keysL L)).take pk) rfl (by rw [List.length_take, HLK.out]; omega) (HSK.out.take_at HF0.out (by rw [HLK.out]; omega)) (fun u hu => svs_one (keysL L) u (List.mem_of_mem_take hu)) (by omega) (by decide) ?_
      intro V1 W1 hown hFr hP
      have HO1 := Lib.hid hown
      have HF1 := Lib.hid hFr
      clear hown hFr hP
      refine hK.out _ _ ⟨fun _ => (HC.out _ HF1.out).1, fun _ => (HC.out _ HF1.out).2, trivial⟩ (fun hHeld => ?_)
      clear hK K
      try simp only [List.getElem_toArray, List.getElem_cons_succ, List.getElem_cons_zero, Act.put, List.setIfInBounds_toArray, List.set_cons_zero, List.set_cons_succ]
      refine wpAnyE_ready (rs := [15]) (by kernel_rfl) (by simp) (AllE.cons rfl (fun K hK => ?_) AllE.nil)
      clear hHeld
      refine step_fr_append (w0 := W1) _ rfl (.tmp 30) (.tmp 36) 46 rfl 3 i3 _ 8 Try.underlying46 h30 h31 h32 h33 rfl (Value.slice none 0 0) 0 [] rfl (Fr.refl _) ⟨rfl, .inl ⟨rfl, rfl⟩⟩ Av pk cv ((ivs (valsL L)).take pk) rfl (by rw [List.length_take, HLV.out]; omega) (HSV.out.take_at HF1.out (by rw [HLV.out]; omega)) (fun u hu => ivs_one (valsL L) u (List.mem_of_mem_take hu)) (by omega) (by decide) ?_
      intro V2 W2 hown hFr hP
      have HO2 := Lib.hid hown
      have HO1b := Lib.hid (row_below HO1.out hFr.bel)
      have HF2 := Lib.hid (show Fr w1 W2 from Below.trans HF1.out (Below.mono hFr (Fr.le HF1.out)))
      have HF12 := Lib.hid hFr
      clear hown hFr hP
      refine hK.out _ _ ⟨fun _ => (HC.out _ HF2.out).1, fun _ => (HC.out _ HF2.out).2, trivial⟩ (fun hHeld => ?_)
      clear hK K
      try simp only [List.getElem_toArray, List.getElem_cons_succ, List.getElem_cons_zero, Act.put, List.setIfInBounds_toArray, List.set_cons_zero, List.set_cons_succ]
      refine wpAnyE_ready (rs := [16]) (by kernel_rfl) (by simp) (AllE.cons rfl (fun K hK => ?_) AllE.nil)
      clear hHeld
      go_simp
      refine hK.out _ _ ⟨fun _ => (HC.out _ HF2.out).1, fun _ => (HC.out _ HF2.out).2, trivial⟩ (fun hHeld => ?_)
      clear hK K
      try simp only [List.getElem_toArray, List.getElem_cons_succ, List.getElem_cons_zero, Act.put, List.setIfInBounds_toArray, List.set_cons_zero, List.set_cons_succ]
      refine wpAnyE_ready (rs := [17]) (by kernel_rfl) (by simp) (AllE.cons rfl (fun K hK => ?_) AllE.nil)
      clear hHeld
      go_simp
      refine hK.out _ _ ⟨fun _ => (HC.out _ HF2.out).1, fun _ => (HC.out _ HF2.out).2, trivial⟩ (fun hHeld => ?_)
      clear hK K
      try simp only [List.getElem_toArray, List.getElem_cons_succ, List.getElem_cons_zero, Act.put, List.setIfInBounds_toArray, List.set_cons_zero, List.set_cons_succ]
      refine wpAnyE_done (by kernel_rfl) (only_normal ?_) _
      clear hc1 hc2 hHeld
      obtain ⟨W3, hW3⟩ : ∃ W3, W2.alloc (.cells #[.string x] 9) = W3 := ⟨_, rfl⟩
      have HF3 := Lib.hid (show Fr w1 W3 from hW3 ▸ HF2.out.alloc _)
      have HO3 := Lib.hid (show W3.ownsRow w1.heap.size 9 1 V1 (0 + pk) ([] ++ (svs (keysL L)).take pk) from hW3 ▸ row_alloc HO1b.out _)
      have HO3v := Lib.hid (show W3.ownsRow W1.heap.size 3 1 V2 (0 + pk) ([] ++ (ivs (valsL L)).take pk) from hW3 ▸ row_alloc HO2.out _)
      have HB3 := Lib.hid (show Blk W3 W2.heap.size 9 #[.string x] from hW3 ▸ Blk.new W2 9 _)
      go_wp2_with (first
        | (at_builtin; (try rw [hW3]); refine wpList_push1 _ rfl (.tmp 38) (.tmp 40) 37 rfl w1.heap.size 9 i9 _ 16 Try.underlying37 h90 h91 h92 h93 rfl V1 (0 + pk) _ rfl HO3.out W2.heap.size (.string x) rfl HB3.out rfl (by omega) (by decide) HF3.out.le ?_)
        | fail)
      intro V3 W4 hown hgr
      have HO4 := Lib.hid hown
      have HF4 := Lib.hid (HF3.out.grown hgr (fun j e => (HO3.out.lt j e).1))
      have HO4v := Lib.hid (row_two HO3v.out HO3.out (by decide) hgr)
      have HS4 := Lib.hid (show W1.heap.size ≤ W4.heap.size from by have h1 := HF12.out.le; have h2 := hgr.size; rw [← hW3, World.size_alloc] at h2; omega)
      clear hown hgr hW3
      obtain ⟨W5, hW5⟩ : ∃ W5, W4.alloc (.cells #[.int .i64 v] 3) = W5 := ⟨_, rfl⟩
      have HF5 := Lib.hid (show Fr w1 W5 from hW5 ▸ HF4.out.alloc _)
      have HO5 := Lib.hid (show W5.ownsRow w1.heap.size 9 1 V3 (pk + 1) ((svs (keysL L)).take pk ++ [.string x]) from hW5 ▸ row_alloc HO4.out _)
      have HO5v := Lib.hid (show W5.ownsRow W1.heap.size 3 1 V2 (0 + pk) ([] ++ (ivs (valsL L)).take pk) from hW5 ▸ row_alloc HO4v.out _)
      have HB5 := Lib.hid (show Blk W5 W4.heap.size 3 #[.int .i64 v] from hW5 ▸ Blk.new W4 3 _)
      have HS5 := Lib.hid (show W1.heap.size ≤ W5.heap.size from by have h1 := HS4.out; rw [← hW5, World.size_alloc]; omega)
      go_wp2_with (first
        | (at_builtin; (try rw [hW5]); refine wpList_push1 _ rfl (.tmp 42) (.tmp 44) 46 rfl W1.heap.size 3 i3 _ 8 Try.underlying46 h30 h31 h32 h33 rfl V2 (0 + pk) _ rfl HO5v.out W4.heap.size (.int .i64 v) rfl HB5.out rfl (by omega) (by decide) HS5.out ?_)
        | fail)
      intro V4 W6 hown hgr
      have HO6v := Lib.hid hown
      have HF6 := Lib.hid (HF5.out.grown hgr (fun j e => Nat.le_trans HF1.out.le (HO5v.out.lt j e).1))
      have HO6 := Lib.hid (row_two HO5.out HO5v.out (by decide) hgr)
      clear hown hgr hW5
      go_wp2_with fail
      have hd1 := cutk_from Ak nL ck pk _ rfl hpk
      have hd2 := cutv_from Av nL cv pk _ rfl hpk
      have HF6d := Lib.hid HF6.out.drew
      refine wp_region_E [([20], fun w' => w'.cell? ⟨o, 1, none⟩ = some (.slice Ak nL ck)), ([23], fun w' => w'.cell? ⟨o, 2, none⟩ = some (.slice Av nL cv))] (by kernel_rfl) ⟨fun _ => (HC.out _ HF6d.out).1, fun _ => (HC.out _ HF6d.out).2, trivial⟩ (fun hHeld => ?_)
      refine wpAnyE_take (i := 0) (v := ?_) rfl (by kernel_rfl) (by kernel_rfl) (by kernel_rfl) (by kernel_rfl) (fun _ _ _ h => h) (Or.inl ⟨by rfl, ?_⟩) hHeld (fun hHeld => ?_)
      rotate_left
      · (intro w hSw; (try dsimp only at hSw); (try simp only [List.getElem_toArray, List.getElem_cons_succ, List.getElem_cons_zero]); go_simp; try with_reducible rfl)
      try simp only [List.getElem_toArray, List.getElem_cons_succ, List.getElem_cons_zero, Act.put, List.setIfInBounds_toArray, List.set_cons_zero, List.set_cons_succ]
      refine wpAnyE_take (i := 1) (v := ?_) rfl (by kernel_rfl) (by kernel_rfl) (by kernel_rfl) (by kernel_rfl) (fun _ _ _ h => h) (Or.inl ⟨by rfl, ?_⟩) hHeld (fun hHeld => ?_)
      rotate_left
      · (intro w hSw; (try dsimp only at hSw); (try simp only [List.getElem_toArray, List.getElem_cons_succ, List.getElem_cons_zero]); go_simp; try with_reducible rfl)
      try simp only [List.getElem_toArray, List.getElem_cons_succ, List.getElem_cons_zero, Act.put, List.setIfInBounds_toArray, List.set_cons_zero, List.set_cons_succ]
      refine wpAnyE_take (i := 2) (v := ?_) rfl (by kernel_rfl) (by kernel_rfl) (by kernel_rfl) (by kernel_rfl) (fun _ _ _ h => h) (Or.inl ⟨by rfl, ?_⟩) hHeld (fun hHeld => ?_)
      rotate_left
      · (intro w hSw; (try dsimp only at hSw); (try simp only [List.getElem_toArray, List.getElem_cons_succ, List.getElem_cons_zero]); go_simp; try with_reducible rfl)
      try simp only [List.getElem_toArray, List.getElem_cons_succ, List.getElem_cons_zero, Act.put, List.setIfInBounds_toArray, List.set_cons_zero, List.set_cons_succ]
      refine wpAnyE_take (i := 3) (v := ?_) rfl (by kernel_rfl) (by kernel_rfl) (by kernel_rfl) (by kernel_rfl) (fun _ _ _ h => h) (Or.inl ⟨by rfl, ?_⟩) hHeld (fun hHeld => ?_)
      rotate_left
      · (intro w hSw; (try dsimp only at hSw); (try simp only [List.getElem_toArray, List.getElem_cons_succ, List.getElem_cons_zero]); go_simp; try with_reducible rfl)
      try simp only [List.getElem_toArray, List.getElem_cons_succ, List.getElem_cons_zero, Act.put, List.setIfInBounds_toArray, List.set_cons_zero, List.set_cons_succ]
      refine wpAnyE_take (i := 4) (v := ?_) rfl (by kernel_rfl) (by kernel_rfl) (by kernel_rfl) (by kernel_rfl) (fun _ _ _ h => h) (Or.inl ⟨by rfl, ?_⟩) hHeld (fun hHeld => ?_)
      rotate_left
      · (intro w hSw; (try dsimp only at hSw); (try simp only [List.getElem_toArray, List.getElem_cons_succ, List.getElem_cons_zero]); go_simp; try with_reducible rfl)
      try simp only [List.getElem_toArray, List.getElem_cons_succ, List.getElem_cons_zero, Act.put, List.setIfInBounds_toArray, List.set_cons_zero, List.set_cons_succ]
      refine wpAnyE_take (i := 5) (v := ?_) rfl (by kernel_rfl) (by kernel_rfl) (by kernel_rfl) (by kernel_rfl) (fun _ _ _ h => h) (Or.inl ⟨by rfl, ?_⟩) hHeld (fun hHeld => ?_)
      rotate_left
      · (intro w hSw; (try dsimp only at hSw); (try simp only [List.getElem_toArray, List.getElem_cons_succ, List.getElem_cons_zero]); go_simp; try with_reducible rfl)
      try simp only [List.getElem_toArray, List.getElem_cons_succ, List.getElem_cons_zero, Act.put, List.setIfInBounds_toArray, List.set_cons_zero, List.set_cons_succ]
      refine wpAnyE_load (i := 6) _ _ (v := ?_) rfl (by kernel_rfl) List.mem_cons_self (by kernel_rfl) (by kernel_rfl) (by kernel_rfl) (by kernel_rfl) (fun _ _ _ h => h) (Or.inl ⟨by rfl, ?_⟩) hHeld (fun hHeld => ?_)
      rotate_left
      · (intro w hSw; (try dsimp only at hSw); (try simp only [List.getElem_toArray, List.getElem_cons_succ, List.getElem_cons_zero]); go_simp; try with_reducible rfl)
      try simp only [List.getElem_toArray, List.getElem_cons_succ, List.getElem_cons_zero, Act.put, List.setIfInBounds_toArray, List.set_cons_zero, List.set_cons_succ]
      refine wpAnyE_take (i := 7) (v := ?_) rfl (by kernel_rfl) (by kernel_rfl) (by kernel_rfl) (by kernel_rfl) (fun _ _ _ h => h) (Or.inl ⟨by rfl, ?_⟩) hHeld (fun hHeld => ?_)
      rotate_left
      · (intro w hSw; (try dsimp only at hSw); (try simp only [List.getElem_toArray, List.getElem_cons_succ, List.getElem_cons_zero]); go_simp; try with_reducible rfl)
      try simp only [List.getElem_toArray, List.getElem_cons_succ, List.getElem_cons_zero, Act.put, List.setIfInBounds_toArray, List.set_cons_zero, List.set_cons_succ]
      refine wpAnyE_take (i := 8) (v := ?_) rfl (by kernel_rfl) (by kernel_rfl) (by kernel_rfl) (by kernel_rfl) (fun _ _ _ h => h) (Or.inl ⟨by rfl, ?_⟩) hHeld (fun hHeld => ?_)
      rotate_left
      · (intro w hSw; (try dsimp only at hSw); (try simp only [List.getElem_toArray, List.getElem_cons_succ, List.getElem_cons_zero]); go_simp; try with_reducible rfl)
      try simp only [List.getElem_toArray, List.getElem_cons_succ, List.getElem_cons_zero, Act.put, List.setIfInBounds_toArray, List.set_cons_zero, List.set_cons_succ]
      refine wpAnyE_take (i := 10) (v := ?_) rfl (by kernel_rfl) (by kernel_rfl) (by kernel_rfl) (by kernel_rfl) (fun _ _ _ h => h) (Or.inl ⟨by rfl, ?_⟩) hHeld (fun hHeld => ?_)
      rotate_left
      · (intro w hSw; (try dsimp only at hSw); (try simp only [List.getElem_toArray, List.getElem_cons_succ, List.getElem_cons_zero]); go_simp; try with_reducible rfl)
      try simp only [List.getElem_toArray, List.getElem_cons_succ, List.getElem_cons_zero, Act.put, List.setIfInBounds_toArray, List.set_cons_zero, List.set_cons_succ]
      refine wpAnyE_take (i := 11) (v := ?_) rfl (by kernel_rfl) (by kernel_rfl) (by kernel_rfl) (by kernel_rfl) (fun _ _ _ h => h) (Or.inl ⟨by rfl, ?_⟩) hHeld (fun hHeld => ?_)
      rotate_left
      · (intro w hSw; (try dsimp only at hSw); (try simp only [List.getElem_toArray, List.getElem_cons_succ, List.getElem_cons_zero]); go_simp; try with_reducible rfl)
      try simp only [List.getElem_toArray, List.getElem_cons_succ, List.getElem_cons_zero, Act.put, List.setIfInBounds_toArray, List.set_cons_zero, List.set_cons_succ]
      refine wpAnyE_take (i := 12) (v := ?_) rfl (by kernel_rfl) (by kernel_rfl) (by kernel_rfl) (by kernel_rfl) (fun _ _ _ h => h) (Or.inl ⟨by rfl, ?_⟩) hHeld (fun hHeld => ?_)
      rotate_left
      · (intro w hSw; (try dsimp only at hSw); (try simp only [List.getElem_toArray, List.getElem_cons_succ, List.getElem_cons_zero]); go_simp; try with_reducible rfl)
      try simp only [List.getElem_toArray, List.getElem_cons_succ, List.getElem_cons_zero, Act.put, List.setIfInBounds_toArray, List.set_cons_zero, List.set_cons_succ]
      refine wpAnyE_take (i := 13) (v := ?_) rfl (by kernel_rfl) (by kernel_rfl) (by kernel_rfl) (by kernel_rfl) (fun _ _ _ h => h) (Or.inl ⟨by rfl, ?_⟩) hHeld (fun hHeld => ?_)
      rotate_left
      · (intro w hSw; (try dsimp only at hSw); (try simp only [List.getElem_toArray, List.getElem_cons_succ, List.getElem_cons_zero]); go_simp; try with_reducible rfl)
      try simp only [List.getElem_toArray, List.getElem_cons_succ, List.getElem_cons_zero, Act.put, List.setIfInBounds_toArray, List.set_cons_zero, List.set_cons_succ]
      refine wpAnyE_load (i := 14) _ _ (v := ?_) rfl (by kernel_rfl) (List.mem_cons_of_mem _ List.mem_cons_self) (by kernel_rfl) (by kernel_rfl) (by kernel_rfl) (by kernel_rfl) (fun _ _ _ h => h) (Or.inl ⟨by rfl, ?_⟩) hHeld (fun hHeld => ?_)
      rotate_left
      · (intro w hSw; (try dsimp only at hSw); (try simp only [List.getElem_toArray, List.getElem_cons_succ, List.getElem_cons_zero]); go_simp; try with_reducible rfl)
      try simp only [List.getElem_toArray, List.getElem_cons_succ, List.getElem_cons_zero, Act.put, List.setIfInBounds_toArray, List.set_cons_zero, List.set_cons_succ]
      refine wpAnyE_take (i := 15) (v := ?_) rfl (by kernel_rfl) (by kernel_rfl) (by kernel_rfl) (by kernel_rfl) (fun _ _ _ h => h) (Or.inl ⟨by rfl, ?_⟩) hHeld (fun hHeld => ?_)
      rotate_left
      · (intro w hSw; (try dsimp only at hSw); (try simp only [List.getElem_toArray, List.getElem_cons_succ, List.getElem_cons_zero]); go_simp; try with_reducible rfl)
      try simp only [List.getElem_toArray, List.getElem_cons_succ, List.getElem_cons_zero, Act.put, List.setIfInBounds_toArray, List.set_cons_zero, List.set_cons_succ]
      refine wpAnyE_take (i := 16) (v := ?_) rfl (by kernel_rfl) (by kernel_rfl) (by kernel_rfl) (by kernel_rfl) (fun _ _ _ h => h) (Or.inl ⟨by rfl, ?_⟩) hHeld (fun hHeld => ?_)
      rotate_left
      · (intro w hSw; (try dsimp only at hSw); (try simp only [List.getElem_toArray, List.getElem_cons_succ, List.getElem_cons_zero]); go_simp; try with_reducible rfl)
      try simp only [List.getElem_toArray, List.getElem_cons_succ, List.getElem_cons_zero, Act.put, List.setIfInBounds_toArray, List.set_cons_zero, List.set_cons_succ]
      refine wpAnyE_ready (rs := [9]) (by kernel_rfl) (by simp) (AllE.cons rfl (fun K hK => ?_) AllE.nil)
      clear hHeld
      refine step_fr_append (w0 := w1) _ rfl (.tmp 48) (.tmp 54) 37 rfl 9 i9 _ 16 Try.underlying37 h90 h91 h92 h93 rfl V3 (pk + 1) _ rfl HF6d.out (row_drew HO6.out) (cutA Ak ck pk) (nL - pk) (ck - pk) ((svs (keysL L)).drop pk) rfl (by rw [List.length_drop, HLK.out]) (by have := HSK.out.drop_at HF6d.out (k := pk) (by rw [HLK.out]; exact hpk); rwa [HLK.out] at this) (fun u hu => svs_one (keysL L) u (List.mem_of_mem_drop hu)) (by omega) (by decide) ?_
      intro V5 W7 hown hFr hP
      obtain ⟨A5, c5, rfl⟩ := row_sl hown
      have HO7 := Lib.hid hown
      have HF7 := Lib.hid hFr
      have HO7v := Lib.hid (row_two' (row_drew HO6v.out) (row_drew HO6.out) (by decide) hP)
      clear hown hFr hP
      refine hK.out _ _ ⟨fun _ => (HC.out _ HF7.out).1, fun _ => (HC.out _ HF7.out).2, trivial⟩ (fun hHeld => ?_)
      clear hK K
      try simp only [List.getElem_toArray, List.getElem_cons_succ, List.getElem_cons_zero, Act.put, List.setIfInBounds_toArray, List.set_cons_zero, List.set_cons_succ]
      refine wpAnyE_ready (rs := [17]) (by kernel_rfl) (by simp) (AllE.cons rfl (fun K hK => ?_) AllE.nil)
      clear hHeld
      refine step_fr_append (w0 := w1) _ rfl (.tmp 56) (.tmp 62) 46 rfl 3 i3 _ 8 Try.underlying46 h30 h31 h32 h33 rfl V4 (pk + 1) _ rfl HF7.out (row_down HF1.out.le HO7v.out) (cutA Av cv pk) (nL - pk) (cv - pk) ((ivs (valsL L)).drop pk) rfl (by rw [List.length_drop, HLV.out]) (by have := HSV.out.drop_at HF7.out (k := pk) (by rw [HLV.out]; exact hpk); rwa [HLV.out] at this) (fun u hu => ivs_one (valsL L) u (List.mem_of_mem_drop hu)) (by omega) (by decide) ?_
      intro V6 W8 hown hFr hP
      obtain ⟨A6, c6, rfl⟩ := row_sl hown
      have HO8v := Lib.hid hown
      have HF8 := Lib.hid hFr
      have HO8 := Lib.hid (row_two' HO7.out HO7v.out (by decide) hP)
      have HX8 := Lib.hid ((H1.out.below hFr).box)
      have e1 : W8.cell? ⟨o, 1, none⟩ = some (.slice Ak nL ck) := HX8.out.cell 1
      have f1 := HX8.out.frozen 1
      have HX9 := Lib.hid (HX8.out.set_ 1 (.slice A5 (pk + 1 + (nL - pk)) c5))
      have e2 : (W8.setCell ⟨o, 1, none⟩ (.slice A5 (pk + 1 + (nL - pk)) c5)).cell? ⟨o, 2, none⟩ = some (.slice Av nL cv) := HX9.out.cell 2
      have f2 := HX9.out.frozen 2
      clear hown hFr hP
      refine hK.out _ _ ⟨fun _ => (HC.out _ HF8.out).1, fun _ => (HC.out _ HF8.out).2, trivial⟩ (fun hHeld => ?_)
      clear hK K
      try simp only [List.getElem_toArray, List.getElem_cons_succ, List.getElem_cons_zero, Act.put, List.setIfInBounds_toArray, List.set_cons_zero, List.set_cons_succ]
      refine wpAnyE_take (i := 18) (v := ?_) rfl (by kernel_rfl) (by kernel_rfl) (by kernel_rfl) (by kernel_rfl) (fun _ _ _ h => h) (Or.inl ⟨by rfl, ?_⟩) hHeld (fun hHeld => ?_)
      rotate_left
      · (intro w hSw; (try dsimp only at hSw); (try simp only [List.getElem_toArray, List.getElem_cons_succ, List.getElem_cons_zero]); go_simp; try with_reducible rfl)
      try simp only [List.getElem_toArray, List.getElem_cons_succ, List.getElem_cons_zero, Act.put, List.setIfInBounds_toArray, List.set_cons_zero, List.set_cons_succ]
      refine wpAnyE_take (i := 19) (v := ?_) rfl (by kernel_rfl) (by kernel_rfl) (by kernel_rfl) (by kernel_rfl) (fun _ _ _ h => h) (Or.inl ⟨by rfl, ?_⟩) hHeld (fun hHeld => ?_)
      rotate_left
      · (intro w hSw; (try dsimp only at hSw); (try simp only [List.getElem_toArray, List.getElem_cons_succ, List.getElem_cons_zero]); go_simp; try with_reducible rfl)
      try simp only [List.getElem_toArray, List.getElem_cons_succ, List.getElem_cons_zero, Act.put, List.setIfInBounds_toArray, List.set_cons_zero, List.set_cons_succ]
      refine wpAnyE_ready (rs := [20]) (by kernel_rfl) (by simp) (AllE.cons rfl (fun K hK => ?_) AllE.nil)
      clear hHeld
      go_simp
      refine hK.out _ _ ⟨(fun e => absurd e (Bool.eq_false_iff.1 (by kernel_rfl))), fun _ => (by exact e2), trivial⟩ (fun hHeld => ?_)
      clear hK K
      try simp only [List.getElem_toArray, List.getElem_cons_succ, List.getElem_cons_zero, Act.put, List.setIfInBounds_toArray, List.set_cons_zero, List.set_cons_succ]
      refine wpAnyE_take (i := 21) (v := ?_) rfl (by kernel_rfl) (by kernel_rfl) (by kernel_rfl) (by kernel_rfl) (fun _ _ _ h => h) (Or.inl ⟨by rfl, ?_⟩) hHeld (fun hHeld => ?_)
      rotate_left
      · (intro w hSw; (try dsimp only at hSw); (try simp only [List.getElem_toArray, List.getElem_cons_succ, List.getElem_cons_zero]); go_simp; try with_reducible rfl)
      try simp only [List.getElem_toArray, List.getElem_cons_succ, List.getElem_cons_zero, Act.put, List.setIfInBounds_toArray, List.set_cons_zero, List.set_cons_succ]
      refine wpAnyE_take (i := 22) (v := ?_) rfl (by kernel_rfl) (by kernel_rfl) (by kernel_rfl) (by kernel_rfl) (fun _ _ _ h => h) (Or.inl ⟨by rfl, ?_⟩) hHeld (fun hHeld => ?_)
      rotate_left
      · (intro w hSw; (try dsimp only at hSw); (try simp only [List.getElem_toArray, List.getElem_cons_succ, List.getElem_cons_zero]); go_simp; try with_reducible rfl)
      try simp only [List.getElem_toArray, List.getElem_cons_succ, List.getElem_cons_zero, Act.put, List.setIfInBounds_toArray, List.set_cons_zero, List.set_cons_succ]
      refine wpAnyE_ready (rs := [23]) (by kernel_rfl) (by simp) (AllE.cons rfl (fun K hK => ?_) AllE.nil)
      clear hHeld
      go_simp
      refine hK.out _ _ ⟨(fun e => absurd e (Bool.eq_false_iff.1 (by kernel_rfl))), (fun e => absurd e (Bool.eq_false_iff.1 (by kernel_rfl))), trivial⟩ (fun hHeld => ?_)
      clear hK K
      try simp only [List.getElem_toArray, List.getElem_cons_succ, List.getElem_cons_zero, Act.put, List.setIfInBounds_toArray, List.set_cons_zero, List.set_cons_succ]
      refine wpAnyE_done (by kernel_rfl) (only_normal ?_) _
      clear hd1 hd2 hHeld e1 e2 f1 f2
      go_wp2
      go_ret
      obtain ⟨k1, k2, k3⟩ := ins_rows (v := v) H1.out.srt HPP.out H1.out.hl hpk
      exact ⟨rfl, Rw.pre HB.out (H1.out.anew HF8.out H1.out.srt.ins k3 (by rw [k1]; exact HO8.out) (by rw [k2]; exact HO8v.out))⟩
end
end Go.Proofs.Ytlfjhbfhnlclpaa
