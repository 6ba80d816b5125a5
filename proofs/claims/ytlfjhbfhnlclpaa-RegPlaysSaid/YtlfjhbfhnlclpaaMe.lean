/- RegPlays: the reference's registry: Remove. -/
import Derived.Test.YtlfjhbfhnlclpaaMd
namespace Go.Proofs.Ytlfjhbfhnlclpaa
open Go.RowKit
open Go.Lib
open Go.ChangeShapes Go.ChangeAt
set_option linter.unusedVariables false
set_option linter.unusedSimpArgs false
set_option maxRecDepth 100000
section
variable {w1 W3 w5 W6 : World} {B o nL ck cv m : Nat} {n : Int} {Ak Av : Option Addr} {L L' : LN}
/-- The struct set anew, one row behind the other. -/
theorem Ro.anew2 (h : Ro w1 B o n nL Ak ck Av cv L) (F3 : Fr w1 W3) {A1 A2 : Option Addr} {c1 c2 : Nat} (e5 : W3.setCell ⟨o, 1, none⟩ (.slice A1 m c1) = w5) (F6 : Fr w5 W6) (hs : Srt L') (hm : L'.length = m) (o3 : W3.ownsRow w1.heap.size 9 1 (.slice A1 m c1) m (svs (keysL L'))) (o6 : W6.ownsRow w5.heap.size 3 1 (.slice A2 m c2) m (ivs (valsL L'))) :
    Rw w1 (W6.setCell ⟨o, 2, none⟩ (.slice A2 m c2)) B o n nL Ak ck Av cv L' := by
  have hb := (h.below F3.bel).box
  have hb5 : Blk w5 o 48 _ := e5 ▸ hb.set_ 1 (.slice A1 m c1)
  have hb6 := hb5.below F6.bel hb5.lt
  have hsz : w1.heap.size ≤ w5.heap.size := by have := F3.le; rw [← e5]; simpa [World.setCell] using this
  have r3 : w5.ownsRow w1.heap.size 9 1 (.slice A1 m c1) m (svs (keysL L')) := e5 ▸ row_setO o3 hb (by decide)
  have k5 : ON.KeepN W3 w5 := e5 ▸ ON.KeepN.set hb (by decide) 1 _
  refine ⟨m, A1, c1, A2, c2, ⟨hb6.set_ 2 _, row_down h.bs (row_setO (row_below r3 F6.bel) hb6 (by decide)), row_down (Nat.le_trans h.bs hsz) (row_setO o6 hb6 (by decide)), hm, h.ge, ?_, hs⟩, ⟨?_, ?_, ?_, ?_, fun j hj hn => ?_⟩, (((ON.KeepN.of F3.bel).trans k5).trans (ON.KeepN.of F6.bel)).trans (ON.KeepN.set hb6 (by decide) 2 _), fun j hj => ?_⟩
  · have := F6.le
    simp [World.setCell]
    exact Nat.le_trans h.bs (Nat.le_trans hsz this)
  · exact F6.bel.os.trans (by rw [← e5]; exact F3.bel.os)
  · exact F6.bel.tape.trans (by rw [← e5]; exact F3.bel.tape)
  · exact F6.bel.output.trans (by rw [← e5]; exact F3.bel.output)
  · have := F6.le
    simp [World.setCell]
    exact Nat.le_trans hsz this
  · have hne : j ≠ o := fun e => hn (by simp [e])
    rw [Below.heap_setCell _ ⟨o, 2, none⟩ _ j hne, F6.bel.block j (Nat.lt_of_lt_of_le hj hsz), ← e5, Below.heap_setCell _ ⟨o, 1, none⟩ _ j hne]
    exact F3.bel.block j hj
  · rcases hj with e | e
    · exact .inr (o3.lt j e).1
    · exact .inr (Nat.le_trans hsz (o6.lt j e).1)
end
section
variable {w w' : World} {B o nL ck cv : Nat} {n : Int} {Ak Av : Option Addr} {L : LN}
set_option maxHeartbeats 8000000 in
theorem rrem_any (h : Ro w B o n nL Ak ck Av cv L) (hn : nL ≤ 500) (hp0 : ∀ q ∈ L, 0 ≤ q.2) (x : ByteArray) (v : Int) (ok : Bool) (L' : LN) (ha : remO x v L = (ok, L')) :
    Calls Try.prog 13 #[.pointer (some ⟨o, 0, none⟩), .string x, .int .i64 v] w fun e w' => e = .returned (.bool ok) ∧ Rw w w' B o n nL Ak ck Av cv L' := by
  obtain ⟨i9, h90, h91, h92, h93⟩ := info_parts infoS9
  obtain ⟨i3, h30, h31, h32, h33⟩ := info_parts infoI3
  obtain ⟨⟨pk, pb⟩, hp⟩ : ∃ r, lplace x (keysL L) = r := ⟨_, rfl⟩
  have HA := Lib.hid (at_any h (by omega) x pk pb hp)
  have H := Lib.hid h
  have hnI : (nL : Int) ≤ 500 := by omega
  cases pb with
  | false =>
    obtain ⟨rfl, rfl⟩ : ok = false ∧ L' = L := by
      have hg := h.no_at hp
      unfold remO at ha
      rw [if_pos (by unfold findO; rw [hg]; simp; omega)] at ha
      cases ha
      exact ⟨rfl, rfl⟩
    clear h hp ha
    go_enter Try.func13, Try.ntmps13
    go_wp2_with fail
    refine HA.out.mono ?_
    rintro _ w1 ⟨rfl, hb⟩
    have HB := Lib.hid hb
    clear hb
    go_wp2
    go_ret
    exact ⟨rfl, H.out.same HB.out⟩
  | true =>
    obtain ⟨u, h1, hpkl, h3⟩ := h.some_at hp
    have hu0 : 0 ≤ u := by have := hp0 _ (List.mem_of_getElem? h1); exact this
    have hfo : findO x L = u := by unfold findO; rw [h3]; rfl
    have HU := Lib.hid h1
    have HPP := Lib.hid hp
    have hpkI : (pk : Int) < (nL : Int) := by omega
    by_cases huv : u = v
    · subst huv
      obtain ⟨rfl, rfl⟩ : ok = true ∧ L' = delL x L := by
        unfold remO at ha
        rw [if_neg (by rw [hfo]; simp; omega)] at ha
        cases ha
        exact ⟨rfl, rfl⟩
      have huu : (u != u) = false := by simp
      clear h hp ha h1 h3 hfo
      go_enter Try.func13, Try.ntmps13
      go_wp2_with fail
      refine HA.out.mono ?_
      rintro _ w1 ⟨rfl, hb⟩
      have HB := Lib.hid hb
      have H1 := Lib.hid (H.out.below hb)
      have c2 : w1.cell? ⟨o, 2, none⟩ = some (.slice Av nL cv) := (H.out.below hb).box.cell 2
      obtain ⟨gv, hAv, d0, hncv⟩ := (H.out.below hb).val_at HU.out
      subst hAv
      clear hb
      --MARK
      go_wp2_with fail
      obtain ⟨gk, hsk⟩ := sv_of H1.out.kr (by rw [keysL_len', H1.out.hl])
      have HSK := Lib.hid hsk
      have HLK := Lib.hid (show (svs (keysL L)).length = nL by rw [keysL_len', H1.out.hl])
      clear hsk c2 d0
      have HBX := Lib.hid H1.out.box
      have hc1 := cutk_to Ak nL ck pk (by have := HSK.out.1; rw [HLK.out] at this; omega)
      have hc2 := cutk_from Ak nL ck (pk + 1) ((pk : Int) + 1) (by omega) (by omega)
      have i1 : IntKind.i64.wrap ((pk : Int) + 1) = (pk : Int) + 1 := IntWalk.i64_in _ (by omega)
      have HCk := Lib.hid (fun (W : World) (hF : Fr w1 W) => show W.cell? ⟨o, 1, none⟩ = some (.slice Ak nL ck) from (HBX.out.below hF.bel HBX.out.lt).cell 1)
      have HFk := Lib.hid (Fr.drew (Fr.refl w1))
      obtain ⟨Wnk, hWn⟩ : ∃ W, (w1.alloc (.cells #[] 9)).drew = W := ⟨_, rfl⟩
      have HGk := Lib.hid (show Fr w1 Wnk from hWn ▸ ((Fr.refl w1).alloc _).drew)
      have HNk := Lib.hid (show Wnk.ownsRow w1.heap.size 9 1 (.slice (some ⟨w1.heap.size, 0, none⟩) 0 0) 0 [] from hWn ▸ row_drew (row_lit 9 (Nat.le_refl _) rfl))
      have HWNk := Lib.hid hWn
      clear hWn
      refine wp_region_E [([19], fun w' => w'.cell? ⟨o, 1, none⟩ = some (.slice Ak nL ck))] (by kernel_rfl) ⟨fun _ => HCk.out _ HFk.out, trivial⟩ (fun hHeld => ?_)
      refine wpAnyE_take (i := 0) (v := ?_) rfl (by kernel_rfl) (by kernel_rfl) (by kernel_rfl) (by kernel_rfl) (fun _ _ _ h => h) (Or.inl ⟨by rfl, ?_⟩) hHeld (fun hHeld => ?_)
      rotate_left
      · (intro w hSw; (try dsimp only at hSw); (try simp only [List.getElem_toArray, List.getElem_cons_succ, List.getElem_cons_zero]); go_simp; try with_reducible rfl)
      try simp only [List.getElem_toArray, List.getElem_cons_succ, List.getElem_cons_zero, Act.put, List.setIfInBounds_toArray, List.set_cons_zero, List.set_cons_succ]
      refine wpAnyE_take (i := 2) (v := ?_) rfl (by kernel_rfl) (by kernel_rfl) (by kernel_rfl) (by kernel_rfl) (fun _ _ _ h => h) (Or.inl ⟨by rfl, ?_⟩) hHeld (fun hHeld => ?_)
      rotate_left
      · (intro w hSw; (try dsimp only at hSw); (try simp only [List.getElem_toArray, List.getElem_cons_succ, List.getElem_cons_zero]); go_simp; try with_reducible rfl)
      try simp only [List.getElem_toArray, List.getElem_cons_succ, List.getElem_cons_zero, Act.put, List.setIfInBounds_toArray, List.set_cons_zero, List.set_cons_succ]
      refine wpAnyE_take (i := 3) (v := ?_) rfl (by kernel_rfl) (by kernel_rfl) (by kernel_rfl) (by kernel_rfl) (fun _ _ _ h => h) (Or.inl ⟨by rfl, ?_⟩) hHeld (fun hHeld => ?_)
      rotate_left
      · (intro w hSw; (try dsimp only at hSw); (try simp only [List.getElem_toArray, List.getElem_cons_succ, List.getElem_cons_zero]); go_simp; try with_reducible rfl)
      try simp only [List.getElem_toArray, List.getElem_cons_succ, List.getElem_cons_zero, Act.put, List.setIfInBounds_toArray, List.set_cons_zero, List.set_cons_succ]
      refine wpAnyE_take (i := 4) (v := ?_) rfl (by kernel_rfl) (by kernel_rfl) (by kernel_rfl) (by kernel_rfl) (fun _ _ _ h => h) (Or.inl ⟨by rfl, ?_⟩) hHeld (fun hHeld => ?_)
      rotate_left
      · (intro w hSw; (try dsimp only at hSw); (try simp only [List.getElem_toArray, List.getElem_cons_succ, List.getElem_cons_zero]); go_simp; try with_reducible rfl)
      try simp only [List.getElem_toArray, List.getElem_cons_succ, List.getElem_cons_zero, Act.put, List.setIfInBounds_toArray, List.set_cons_zero, List.set_cons_succ]
      refine wpAnyE_load (i := 5) _ _ (v := ?_) rfl (by kernel_rfl) List.mem_cons_self (by kernel_rfl) (by kernel_rfl) (by kernel_rfl) (by kernel_rfl) (fun _ _ _ h => h) (Or.inl ⟨by rfl, ?_⟩) hHeld (fun hHeld => ?_)
      rotate_left
      · (intro w hSw; (try dsimp only at hSw); (try simp only [List.getElem_toArray, List.getElem_cons_succ, List.getElem_cons_zero]); go_simp; try with_reducible rfl)
      try simp only [List.getElem_toArray, List.getElem_cons_succ, List.getElem_cons_zero, Act.put, List.setIfInBounds_toArray, List.set_cons_zero, List.set_cons_succ]
      refine wpAnyE_take (i := 6) (v := ?_) rfl (by kernel_rfl) (by kernel_rfl) (by kernel_rfl) (by kernel_rfl) (fun _ _ _ h => h) (Or.inl ⟨by rfl, ?_⟩) hHeld (fun hHeld => ?_)
      rotate_left
      · (intro w hSw; (try dsimp only at hSw); (try simp only [List.getElem_toArray, List.getElem_cons_succ, List.getElem_cons_zero]); go_simp; try with_reducible rfl)
      try simp only [List.getElem_toArray, List.getElem_cons_succ, List.getElem_cons_zero, Act.put, List.setIfInBounds_toArray, List.set_cons_zero, List.set_cons_succ]
      refine wpAnyE_take (i := 7) (v := ?_) rfl (by kernel_rfl) (by kernel_rfl) (by kernel_rfl) (by kernel_rfl) (fun _ _ _ h => h) (Or.inl ⟨by rfl, ?_⟩) hHeld (fun hHeld => ?_)
      rotate_left
      · (intro w hSw; (try dsimp only at hSw); (try simp only [List.getElem_toArray, List.getElem_cons_succ, List.getElem_cons_zero]); go_simp; try with_reducible rfl)
      try simp only [List.getElem_toArray, List.getElem_cons_succ, List.getElem_cons_zero, Act.put, List.setIfInBounds_toArray, List.set_cons_zero, List.set_cons_succ]
      refine wpAnyE_take (i := 9) (v := ?_) rfl (by kernel_rfl) (by kernel_rfl) (by kernel_rfl) (by kernel_rfl) (fun _ _ _ h => h) (Or.inl ⟨by rfl, ?_⟩) hHeld (fun hHeld => ?_)
      rotate_left
      · (intro w hSw; (try dsimp only at hSw); (try simp only [List.getElem_toArray, List.getElem_cons_succ, List.getElem_cons_zero]); go_simp; try with_reducible rfl)
      try simp only [List.getElem_toArray, List.getElem_cons_succ, List.getElem_cons_zero, Act.put, List.setIfInBounds_toArray, List.set_cons_zero, List.set_cons_succ]
      refine wpAnyE_take (i := 10) (v := ?_) rfl (by kernel_rfl) (by kernel_rfl) (by kernel_rfl) (by kernel_rfl) (fun _ _ _ h => h) (Or.inl ⟨by rfl, ?_⟩) hHeld (fun hHeld => ?_)
      rotate_left
      · (intro w hSw; (try dsimp only at hSw); (try simp only [List.getElem_toArray, List.getElem_cons_succ, List.getElem_cons_zero]); go_simp; try with_reducible rfl)
      try simp only [List.getElem_toArray, List.getElem_cons_succ, List.getElem_cons_zero, Act.put, List.setIfInBounds_toArray, List.set_cons_zero, List.set_cons_succ]
      refine wpAnyE_take (i := 11) (v := ?_) rfl (by kernel_rfl) (by kernel_rfl) (by kernel_rfl) (by kernel_rfl) (fun _ _ _ h => h) (Or.inl ⟨by rfl, ?_⟩) hHeld (fun hHeld => ?_)
      rotate_left
      · (intro w hSw; (try dsimp only at hSw); (try simp only [List.getElem_toArray, List.getElem_cons_succ, List.getElem_cons_zero]); go_simp; try with_reducible rfl)
      try simp only [List.getElem_toArray, List.getElem_cons_succ, List.getElem_cons_zero, Act.put, List.setIfInBounds_toArray, List.set_cons_zero, List.set_cons_succ]
      refine wpAnyE_load (i := 12) _ _ (v := ?_) rfl (by kernel_rfl) List.mem_cons_self (by kernel_rfl) (by kernel_rfl) (by kernel_rfl) (by kernel_rfl) (fun _ _ _ h => h) (Or.inl ⟨by rfl, ?_⟩) hHeld (fun hHeld => ?_)
      rotate_left
      · (intro w hSw; (try dsimp only at hSw); (try simp only [List.getElem_toArray, List.getElem_cons_succ, List.getElem_cons_zero]); go_simp; try with_reducible rfl)
      try simp only [List.getElem_toArray, List.getElem_cons_succ, List.getElem_cons_zero, Act.put, List.setIfInBounds_toArray, List.set_cons_zero, List.set_cons_succ]
      refine wpAnyE_take (i := 13) (v := ?_) rfl (by kernel_rfl) (by kernel_rfl) (by kernel_rfl) (by kernel_rfl) (fun _ _ _ h => h) (Or.inl ⟨by rfl, ?_⟩) hHeld (fun hHeld => ?_)
      rotate_left
      · (intro w hSw; (try dsimp only at hSw); (try simp only [List.getElem_toArray, List.getElem_cons_succ, List.getElem_cons_zero]); go_simp; try with_reducible rfl)
      try simp only [List.getElem_toArray, List.getElem_cons_succ, List.getElem_cons_zero, Act.put, List.setIfInBounds_toArray, List.set_cons_zero, List.set_cons_succ]
      refine wpAnyE_take (i := 14) (v := ?_) rfl (by kernel_rfl) (by kernel_rfl) (by kernel_rfl) (by kernel_rfl) (fun _ _ _ h => h) (Or.inl ⟨by rfl, ?_⟩) hHeld (fun hHeld => ?_)
      rotate_left
      · (intro w hSw; (try dsimp only at hSw); (try simp only [List.getElem_toArray, List.getElem_cons_succ, List.getElem_cons_zero]); go_simp; try with_reducible rfl)
      try simp only [List.getElem_toArray, List.getElem_cons_succ, List.getElem_cons_zero, Act.put, List.setIfInBounds_toArray, List.set_cons_zero, List.set_cons_succ]
      refine wpAnyE_take (i := 15) (v := ?_) rfl (by kernel_rfl) (by kernel_rfl) (by kernel_rfl) (by kernel_rfl) (fun _ _ _ h => h) (Or.inl ⟨by rfl, ?_⟩) hHeld (fun hHeld => ?_)
      rotate_left
      · (intro w hSw; (try dsimp only at hSw); (try simp only [List.getElem_toArray, List.getElem_cons_succ, List.getElem_cons_zero]); go_simp; try with_reducible rfl)
      try simp only [List.getElem_toArray, List.getElem_cons_succ, List.getElem_cons_zero, Act.put, List.setIfInBounds_toArray, List.set_cons_zero, List.set_cons_succ]
      refine wpAnyE_ready (rs := [1]) (by kernel_rfl) (by simp) (AllE.cons rfl (fun K hK => ?_) AllE.nil)
      clear hHeld
      go_simp
      refine hK.out _ _ (by rw [HWNk.out]; exact ⟨fun _ => HCk.out _ HGk.out, trivial⟩) (fun hHeld => ?_)
      clear hK K
      try simp only [List.getElem_toArray, List.getElem_cons_succ, List.getElem_cons_zero, Act.put, List.setIfInBounds_toArray, List.set_cons_zero, List.set_cons_succ]
      try rw [HWNk.out]
      refine wpAnyE_ready (rs := [8]) (by kernel_rfl) (by simp) (AllE.cons rfl (fun K hK => ?_) AllE.nil)
      clear hHeld
      refine step_fr_append (w0 := w1) _ rfl (.tmp 29) (.tmp 35) 37 rfl 9 i9 _ 16 Try.underlying37 h90 h91 h92 h93 rfl (Value.slice (some ⟨w1.heap.size, 0, none⟩) 0 0) 0 [] rfl HGk.out HNk.out Ak pk ck ((svs (keysL L)).take pk) rfl (by rw [List.length_take, HLK.out]; omega) (HSK.out.take_at HGk.out (by rw [HLK.out]; omega)) (fun u hu => svs_one (keysL L) u (List.mem_of_mem_take hu)) (by omega) (by decide) ?_
      intro V1k W1k hown hFr hP
      have HO1k := Lib.hid hown
      have HF1k := Lib.hid hFr
      clear hown hFr hP
      refine hK.out _ _ ⟨fun _ => HCk.out _ HF1k.out, trivial⟩ (fun hHeld => ?_)
      clear hK K
      try simp only [List.getElem_toArray, List.getElem_cons_succ, List.getElem_cons_zero, Act.put, List.setIfInBounds_toArray, List.set_cons_zero, List.set_cons_succ]
      refine wpAnyE_ready (rs := [16]) (by kernel_rfl) (by simp) (AllE.cons rfl (fun K hK => ?_) AllE.nil)
      clear hHeld
      refine step_fr_append (w0 := w1) _ rfl (.tmp 36) (.tmp 43) 37 rfl 9 i9 _ 16 Try.underlying37 h90 h91 h92 h93 rfl V1k (0 + pk) _ rfl HF1k.out HO1k.out (cutA Ak ck (pk + 1)) (nL - (pk + 1)) (ck - (pk + 1)) ((svs (keysL L)).drop (pk + 1)) rfl (by rw [List.length_drop, HLK.out]) (by have := HSK.out.drop_at HF1k.out (k := pk + 1) (by rw [HLK.out]; omega); rwa [HLK.out] at this) (fun u hu => svs_one (keysL L) u (List.mem_of_mem_drop hu)) (by omega) (by decide) ?_
      intro V2k W2k hown hFr hP
      rw [Nat.zero_add, List.nil_append] at hown
      obtain ⟨A2k, c2k, rfl⟩ := row_sl hown
      have HO2k := Lib.hid hown
      have HF2k := Lib.hid hFr
      have HXk := Lib.hid (HBX.out.below hFr.bel HBX.out.lt)
      have e1 : W2k.cell? ⟨o, 1, none⟩ = some (.slice Ak nL ck) := HXk.out.cell 1
      have f1 := HXk.out.frozen 1
      clear hown hFr hP
      refine hK.out _ _ ⟨fun _ => HCk.out _ HF2k.out, trivial⟩ (fun hHeld => ?_)
      clear hK K
      try simp only [List.getElem_toArray, List.getElem_cons_succ, List.getElem_cons_zero, Act.put, List.setIfInBounds_toArray, List.set_cons_zero, List.set_cons_succ]
      refine wpAnyE_take (i := 17) (v := ?_) rfl (by kernel_rfl) (by kernel_rfl) (by kernel_rfl) (by kernel_rfl) (fun _ _ _ h => h) (Or.inl ⟨by rfl, ?_⟩) hHeld (fun hHeld => ?_)
      rotate_left
      · (intro w hSw; (try dsimp only at hSw); (try simp only [List.getElem_toArray, List.getElem_cons_succ, List.getElem_cons_zero]); go_simp; try with_reducible rfl)
      try simp only [List.getElem_toArray, List.getElem_cons_succ, List.getElem_cons_zero, Act.put, List.setIfInBounds_toArray, List.set_cons_zero, List.set_cons_succ]
      refine wpAnyE_take (i := 18) (v := ?_) rfl (by kernel_rfl) (by kernel_rfl) (by kernel_rfl) (by kernel_rfl) (fun _ _ _ h => h) (Or.inl ⟨by rfl, ?_⟩) hHeld (fun hHeld => ?_)
      rotate_left
      · (intro w hSw; (try dsimp only at hSw); (try simp only [List.getElem_toArray, List.getElem_cons_succ, List.getElem_cons_zero]); go_simp; try with_reducible rfl)
      try simp only [List.getElem_toArray, List.getElem_cons_succ, List.getElem_cons_zero, Act.put, List.setIfInBounds_toArray, List.set_cons_zero, List.set_cons_succ]
      refine wpAnyE_ready (rs := [19]) (by kernel_rfl) (by simp) (AllE.cons rfl (fun K hK => ?_) AllE.nil)
      clear hHeld
      go_simp
      refine hK.out _ _ ⟨(fun e => absurd e (Bool.eq_false_iff.1 (by kernel_rfl))), trivial⟩ (fun hHeld => ?_)
      clear hK K
      try simp only [List.getElem_toArray, List.getElem_cons_succ, List.getElem_cons_zero, Act.put, List.setIfInBounds_toArray, List.set_cons_zero, List.set_cons_succ]
      refine wpAnyE_done (by kernel_rfl) (only_normal ?_) _
      clear hc1 hc2 hHeld e1 f1 i1
      obtain ⟨w5, hw5⟩ : ∃ w5, W2k.setCell ⟨o, 1, none⟩ (.slice A2k (pk + (nL - (pk + 1))) c2k) = w5 := ⟨_, rfl⟩
      have HB5 := Lib.hid (show Blk w5 o 48 _ from hw5 ▸ HXk.out.set_ 1 _)
      have HV5 := Lib.hid (show w5.ownsRow B 3 1 (.slice (some ⟨gv, 0, none⟩) nL cv) nL (ivs (valsL L)) from hw5 ▸ row_setO (row_below H1.out.vr HF2k.out.bel) HXk.out (by decide))
      obtain ⟨gw, hsw⟩ := sv_of HV5.out (by rw [valsL_len', H1.out.hl])
      have HSV := Lib.hid hsw
      have HLV := Lib.hid (show (ivs (valsL L)).length = nL by rw [valsL_len', H1.out.hl])
      have HW5 := Lib.hid hw5
      clear hsw
      go_wp2_with fail
      try rw [hw5]
      clear hw5
      have hc1 := cutv_to (some ⟨gv, 0, none⟩) nL cv pk (by have := HSV.out.1; rw [HLV.out] at this; omega)
      have hc2 := cutv_from (some ⟨gv, 0, none⟩) nL cv (pk + 1) ((pk : Int) + 1) (by omega) (by omega)
      have i1 : IntKind.i64.wrap ((pk : Int) + 1) = (pk : Int) + 1 := IntWalk.i64_in _ (by omega)
      have HCv := Lib.hid (fun (W : World) (hF : Fr w5 W) => show W.cell? ⟨o, 2, none⟩ = some (.slice (some ⟨gv, 0, none⟩) nL cv) from (HB5.out.below hF.bel HB5.out.lt).cell 2)
      have HFv := Lib.hid (Fr.drew (Fr.refl w5))
      obtain ⟨Wnv, hWn⟩ : ∃ W, (w5.alloc (.cells #[] 3)).drew = W := ⟨_, rfl⟩
      have HGv := Lib.hid (show Fr w5 Wnv from hWn ▸ ((Fr.refl w5).alloc _).drew)
      have HNv := Lib.hid (show Wnv.ownsRow w5.heap.size 3 1 (.slice (some ⟨w5.heap.size, 0, none⟩) 0 0) 0 [] from hWn ▸ row_drew (row_lit 3 (Nat.le_refl _) rfl))
      have HWNv := Lib.hid hWn
      clear hWn
      refine wp_region_E [([19], fun w' => w'.cell? ⟨o, 2, none⟩ = some (.slice (some ⟨gv, 0, none⟩) nL cv))] (by kernel_rfl) ⟨fun _ => HCv.out _ HFv.out, trivial⟩ (fun hHeld => ?_)
      refine wpAnyE_take (i := 0) (v := ?_) rfl (by kernel_rfl) (by kernel_rfl) (by kernel_rfl) (by kernel_rfl) (fun _ _ _ h => h) (Or.inl ⟨by rfl, ?_⟩) hHeld (fun hHeld => ?_)
      rotate_left
      · (intro w hSw; (try dsimp only at hSw); (try simp only [List.getElem_toArray, List.getElem_cons_succ, List.getElem_cons_zero]); go_simp; try with_reducible rfl)
      try simp only [List.getElem_toArray, List.getElem_cons_succ, List.getElem_cons_zero, Act.put, List.setIfInBounds_toArray, List.set_cons_zero, List.set_cons_succ]
      refine wpAnyE_take (i := 2) (v := ?_) rfl (by kernel_rfl) (by kernel_rfl) (by kernel_rfl) (by kernel_rfl) (fun _ _ _ h => h) (Or.inl ⟨by rfl, ?_⟩) hHeld (fun hHeld => ?_)
      rotate_left
      · (intro w hSw; (try dsimp only at hSw); (try simp only [List.getElem_toArray, List.getElem_cons_succ, List.getElem_cons_zero]); go_simp; try with_reducible rfl)
      try simp only [List.getElem_toArray, List.getElem_cons_succ, List.getElem_cons_zero, Act.put, List.setIfInBounds_toArray, List.set_cons_zero, List.set_cons_succ]
      refine wpAnyE_take (i := 3) (v := ?_) rfl (by kernel_rfl) (by kernel_rfl) (by kernel_rfl) (by kernel_rfl) (fun _ _ _ h => h) (Or.inl ⟨by rfl, ?_⟩) hHeld (fun hHeld => ?_)
      rotate_left
      · (intro w hSw; (try dsimp only at hSw); (try simp only [List.getElem_toArray, List.getElem_cons_succ, List.getElem_cons_zero]); go_simp; try with_reducible rfl)
      try simp only [List.getElem_toArray, List.getElem_cons_succ, List.getElem_cons_zero, Act.put, List.setIfInBounds_toArray, List.set_cons_zero, List.set_cons_succ]
      refine wpAnyE_take (i := 4) (v := ?_) rfl (by kernel_rfl) (by kernel_rfl) (by kernel_rfl) (by kernel_rfl) (fun _ _ _ h => h) (Or.inl ⟨by rfl, ?_⟩) hHeld (fun hHeld => ?_)
      rotate_left
      · (intro w hSw; (try dsimp only at hSw); (try simp only [List.getElem_toArray, List.getElem_cons_succ, List.getElem_cons_zero]); go_simp; try with_reducible rfl)
      try simp only [List.getElem_toArray, List.getElem_cons_succ, List.getElem_cons_zero, Act.put, List.setIfInBounds_toArray, List.set_cons_zero, List.set_cons_succ]
      refine wpAnyE_load (i := 5) _ _ (v := ?_) rfl (by kernel_rfl) List.mem_cons_self (by kernel_rfl) (by kernel_rfl) (by kernel_rfl) (by kernel_rfl) (fun _ _ _ h => h) (Or.inl ⟨by rfl, ?_⟩) hHeld (fun hHeld => ?_)
      rotate_left
      · (intro w hSw; (try dsimp only at hSw); (try simp only [List.getElem_toArray, List.getElem_cons_succ, List.getElem_cons_zero]); go_simp; try with_reducible rfl)
      try simp only [List.getElem_toArray, List.getElem_cons_succ, List.getElem_cons_zero, Act.put, List.setIfInBounds_toArray, List.set_cons_zero, List.set_cons_succ]
      refine wpAnyE_take (i := 6) (v := ?_) rfl (by kernel_rfl) (by kernel_rfl) (by kernel_rfl) (by kernel_rfl) (fun _ _ _ h => h) (Or.inl ⟨by rfl, ?_⟩) hHeld (fun hHeld => ?_)
      rotate_left
      · (intro w hSw; (try dsimp only at hSw); (try simp only [List.getElem_toArray, List.getElem_cons_succ, List.getElem_cons_zero]); go_simp; try with_reducible rfl)
      try simp only [List.getElem_toArray, List.getElem_cons_succ, List.getElem_cons_zero, Act.put, List.setIfInBounds_toArray, List.set_cons_zero, List.set_cons_succ]
      refine wpAnyE_take (i := 7) (v := ?_) rfl (by kernel_rfl) (by kernel_rfl) (by kernel_rfl) (by kernel_rfl) (fun _ _ _ h => h) (Or.inl ⟨by rfl, ?_⟩) hHeld (fun hHeld => ?_)
      rotate_left
      · (intro w hSw; (try dsimp only at hSw); (try simp only [List.getElem_toArray, List.getElem_cons_succ, List.getElem_cons_zero]); go_simp; try with_reducible rfl)
      try simp only [List.getElem_toArray, List.getElem_cons_succ, List.getElem_cons_zero, Act.put, List.setIfInBounds_toArray, List.set_cons_zero, List.set_cons_succ]
      refine wpAnyE_take (i := 9) (v := ?_) rfl (by kernel_rfl) (by kernel_rfl) (by kernel_rfl) (by kernel_rfl) (fun _ _ _ h => h) (Or.inl ⟨by rfl, ?_⟩) hHeld (fun hHeld => ?_)
      rotate_left
      · (intro w hSw; (try dsimp only at hSw); (try simp only [List.getElem_toArray, List.getElem_cons_succ, List.getElem_cons_zero]); go_simp; try with_reducible rfl)
      try simp only [List.getElem_toArray, List.getElem_cons_succ, List.getElem_cons_zero, Act.put, List.setIfInBounds_toArray, List.set_cons_zero, List.set_cons_succ]
      refine wpAnyE_take (i := 10) (v := ?_) rfl (by kernel_rfl) (by kernel_rfl) (by kernel_rfl) (by kernel_rfl) (fun _ _ _ h => h) (Or.inl ⟨by rfl, ?_⟩) hHeld (fun hHeld => ?_)
      rotate_left
      · (intro w hSw; (try dsimp only at hSw); (try simp only [List.getElem_toArray, List.getElem_cons_succ, List.getElem_cons_zero]); go_simp; try with_reducible rfl)
      try simp only [List.getElem_toArray, List.getElem_cons_succ, List.getElem_cons_zero, Act.put, List.setIfInBounds_toArray, List.set_cons_zero, List.set_cons_succ]
      refine wpAnyE_take (i := 11) (v := ?_) rfl (by kernel_rfl) (by kernel_rfl) (by kernel_rfl) (by kernel_rfl) (fun _ _ _ h => h) (Or.inl ⟨by rfl, ?_⟩) hHeld (fun hHeld => ?_)
      rotate_left
      · (intro w hSw; (try dsimp only at hSw); (try simp only [List.getElem_toArray, List.getElem_cons_succ, List.getElem_cons_zero]); go_simp; try with_reducible rfl)
      try simp only [List.getElem_toArray, List.getElem_cons_succ, List.getElem_cons_zero, Act.put, List.setIfInBounds_toArray, List.set_cons_zero, List.set_cons_succ]
      refine wpAnyE_load (i := 12) _ _ (v := ?_) rfl (by kernel_rfl) List.mem_cons_self (by kernel_rfl) (by kernel_rfl) (by kernel_rfl) (by kernel_rfl) (fun _ _ _ h => h) (Or.inl ⟨by rfl, ?_⟩) hHeld (fun hHeld => ?_)
      rotate_left
      · (intro w hSw; (try dsimp only at hSw); (try simp only [List.getElem_toArray, List.getElem_cons_succ, List.getElem_cons_zero]); go_simp; try with_reducible rfl)
      try simp only [List.getElem_toArray, List.getElem_cons_succ, List.getElem_cons_zero, Act.put, List.setIfInBounds_toArray, List.set_cons_zero, List.set_cons_succ]
      refine wpAnyE_take (i := 13) (v := ?_) rfl (by kernel_rfl) (by kernel_rfl) (by kernel_rfl) (by kernel_rfl) (fun _ _ _ h => h) (Or.inl ⟨by rfl, ?_⟩) hHeld (fun hHeld => ?_)
      rotate_left
      · (intro w hSw; (try dsimp only at hSw); (try simp only [List.getElem_toArray, List.getElem_cons_succ, List.getElem_cons_zero]); go_simp; try with_reducible rfl)
      try simp only [List.getElem_toArray, List.getElem_cons_succ, List.getElem_cons_zero, Act.put, List.setIfInBounds_toArray, List.set_cons_zero, List.set_cons_succ]
      refine wpAnyE_take (i := 14) (v := ?_) rfl (by kernel_rfl) (by kernel_rfl) (by kernel_rfl) (by kernel_rfl) (fun _ _ _ h => h) (Or.inl ⟨by rfl, ?_⟩) hHeld (fun hHeld => ?_)
      rotate_left
      · (intro w hSw; (try dsimp only at hSw); (try simp only [List.getElem_toArray, List.getElem_cons_succ, List.getElem_cons_zero]); go_simp; try with_reducible rfl)
      try simp only [List.getElem_toArray, List.getElem_cons_succ, List.getElem_cons_zero, Act.put, List.setIfInBounds_toArray, List.set_cons_zero, List.set_cons_succ]
      refine wpAnyE_take (i := 15) (v := ?_) rfl (by kernel_rfl) (by kernel_rfl) (by kernel_rfl) (by kernel_rfl) (fun _ _ _ h => h) (Or.inl ⟨by rfl, ?_⟩) hHeld (fun hHeld => ?_)
      rotate_left
      · (intro w hSw; (try dsimp only at hSw); (try simp only [List.getElem_toArray, List.getElem_cons_succ, List.getElem_cons_zero]); go_simp; try with_reducible rfl)
      try simp only [List.getElem_toArray, List.getElem_cons_succ, List.getElem_cons_zero, Act.put, List.setIfInBounds_toArray, List.set_cons_zero, List.set_cons_succ]
      refine wpAnyE_ready (rs := [1]) (by kernel_rfl) (by simp) (AllE.cons rfl (fun K hK => ?_) AllE.nil)
      clear hHeld
      go_simp
      refine hK.out _ _ (by rw [HWNv.out]; exact ⟨fun _ => HCv.out _ HGv.out, trivial⟩) (fun hHeld => ?_)
      clear hK K
      try simp only [List.getElem_toArray, List.getElem_cons_succ, List.getElem_cons_zero, Act.put, List.setIfInBounds_toArray, List.set_cons_zero, List.set_cons_succ]
      try rw [HWNv.out]
      refine wpAnyE_ready (rs := [8]) (by kernel_rfl) (by simp) (AllE.cons rfl (fun K hK => ?_) AllE.nil)
      clear hHeld
      refine step_fr_append (w0 := w5) _ rfl (.tmp 48) (.tmp 54) 46 rfl 3 i3 _ 8 Try.underlying46 h30 h31 h32 h33 rfl (Value.slice (some ⟨w5.heap.size, 0, none⟩) 0 0) 0 [] rfl HGv.out HNv.out (some ⟨gv, 0, none⟩) pk cv ((ivs (valsL L)).take pk) rfl (by rw [List.length_take, HLV.out]; omega) (HSV.out.take_at HGv.out (by rw [HLV.out]; omega)) (fun u hu => ivs_one (valsL L) u (List.mem_of_mem_take hu)) (by omega) (by decide) ?_
      intro V1v W1v hown hFr hP
      have HO1v := Lib.hid hown
      have HF1v := Lib.hid hFr
      clear hown hFr hP
      refine hK.out _ _ ⟨fun _ => HCv.out _ HF1v.out, trivial⟩ (fun hHeld => ?_)
      clear hK K
      try simp only [List.getElem_toArray, List.getElem_cons_succ, List.getElem_cons_zero, Act.put, List.setIfInBounds_toArray, List.set_cons_zero, List.set_cons_succ]
      refine wpAnyE_ready (rs := [16]) (by kernel_rfl) (by simp) (AllE.cons rfl (fun K hK => ?_) AllE.nil)
      clear hHeld
      refine step_fr_append (w0 := w5) _ rfl (.tmp 55) (.tmp 62) 46 rfl 3 i3 _ 8 Try.underlying46 h30 h31 h32 h33 rfl V1v (0 + pk) _ rfl HF1v.out HO1v.out (cutA (some ⟨gv, 0, none⟩) cv (pk + 1)) (nL - (pk + 1)) (cv - (pk + 1)) ((ivs (valsL L)).drop (pk + 1)) rfl (by rw [List.length_drop, HLV.out]) (by have := HSV.out.drop_at HF1v.out (k := pk + 1) (by rw [HLV.out]; omega); rwa [HLV.out] at this) (fun u hu => ivs_one (valsL L) u (List.mem_of_mem_drop hu)) (by omega) (by decide) ?_
      intro V2v W2v hown hFr hP
      rw [Nat.zero_add, List.nil_append] at hown
      obtain ⟨A2v, c2v, rfl⟩ := row_sl hown
      have HO2v := Lib.hid hown
      have HF2v := Lib.hid hFr
      have HXv := Lib.hid (HB5.out.below hFr.bel HB5.out.lt)
      have e1 : W2v.cell? ⟨o, 2, none⟩ = some (.slice (some ⟨gv, 0, none⟩) nL cv) := HXv.out.cell 2
      have f1 := HXv.out.frozen 2
      clear hown hFr hP
      refine hK.out _ _ ⟨fun _ => HCv.out _ HF2v.out, trivial⟩ (fun hHeld => ?_)
      clear hK K
      try simp only [List.getElem_toArray, List.getElem_cons_succ, List.getElem_cons_zero, Act.put, List.setIfInBounds_toArray, List.set_cons_zero, List.set_cons_succ]
      refine wpAnyE_take (i := 17) (v := ?_) rfl (by kernel_rfl) (by kernel_rfl) (by kernel_rfl) (by kernel_rfl) (fun _ _ _ h => h) (Or.inl ⟨by rfl, ?_⟩) hHeld (fun hHeld => ?_)
      rotate_left
      · (intro w hSw; (try dsimp only at hSw); (try simp only [List.getElem_toArray, List.getElem_cons_succ, List.getElem_cons_zero]); go_simp; try with_reducible rfl)
      try simp only [List.getElem_toArray, List.getElem_cons_succ, List.getElem_cons_zero, Act.put, List.setIfInBounds_toArray, List.set_cons_zero, List.set_cons_succ]
      refine wpAnyE_take (i := 18) (v := ?_) rfl (by kernel_rfl) (by kernel_rfl) (by kernel_rfl) (by kernel_rfl) (fun _ _ _ h => h) (Or.inl ⟨by rfl, ?_⟩) hHeld (fun hHeld => ?_)
      rotate_left
      · (intro w hSw; (try dsimp only at hSw); (try simp only [List.getElem_toArray, List.getElem_cons_succ, List.getElem_cons_zero]); go_simp; try with_reducible rfl)
      try simp only [List.getElem_toArray, List.getElem_cons_succ, List.getElem_cons_zero, Act.put, List.setIfInBounds_toArray, List.set_cons_zero, List.set_cons_succ]
      refine wpAnyE_ready (rs := [19]) (by kernel_rfl) (by simp) (AllE.cons rfl (fun K hK => ?_) AllE.nil)
      clear hHeld
      go_simp
      refine hK.out _ _ ⟨(fun e => absurd e (Bool.eq_false_iff.1 (by kernel_rfl))), trivial⟩ (fun hHeld => ?_)
      clear hK K
      try simp only [List.getElem_toArray, List.getElem_cons_succ, List.getElem_cons_zero, Act.put, List.setIfInBounds_toArray, List.set_cons_zero, List.set_cons_succ]
      refine wpAnyE_done (by kernel_rfl) (only_normal ?_) _
      clear hc1 hc2 hHeld e1 f1 i1
      go_wp2
      go_ret
      obtain ⟨k1, k2, k3⟩ := del_rows H1.out.srt HPP.out H1.out.hl hpkl
      have q1 := HO2k.out
      have q2 := HO2v.out
      exact ⟨rfl, Rw.pre HB.out (H1.out.anew2 HF2k.out HW5.out HF2v.out (H1.out.srt.del x) k3 (by rw [k1]; exact q1) (by rw [k2]; exact q2))⟩
    · obtain ⟨rfl, rfl⟩ : ok = false ∧ L' = L := by
        unfold remO at ha
        rw [if_pos (.inr (by rw [hfo]; exact huv))] at ha
        cases ha
        exact ⟨rfl, rfl⟩
      have huu : (u != v) = true := by simpa using huv
      clear h hp ha h1 h3 hfo huv
      go_enter Try.func13, Try.ntmps13
      go_wp2_with fail
      refine HA.out.mono ?_
      rintro _ w1 ⟨rfl, hb⟩
      have HB := Lib.hid hb
      have c2 : w1.cell? ⟨o, 2, none⟩ = some (.slice Av nL cv) := (H.out.below hb).box.cell 2
      obtain ⟨gv, hAv, d0, hncv⟩ := (H.out.below hb).val_at HU.out
      subst hAv
      clear hb
      go_wp2
      go_ret
      exact ⟨rfl, H.out.same HB.out⟩
end
end Go.Proofs.Ytlfjhbfhnlclpaa
