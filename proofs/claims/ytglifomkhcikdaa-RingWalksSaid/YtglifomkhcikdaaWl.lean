/- RingWalks: its walk. -/
import Derived.Test.YtglifomkhcikdaaWk
import Derived.RangeFuncWrites
import Derived.RangeFuncBox
import Derived.Maps.AppendAt
namespace Go.Proofs.Ytglifomkhcikdaa
open Go.RowKit
open Go.Lib
open Go.Shelf
attribute [local go_sem] Oper.semAt_some
set_option linter.unusedVariables false
set_option linter.unusedSimpArgs false
set_option maxRecDepth 100000
theorem Rng.glt2 {T e : TypeId} {w : World} {R g : Nat} {most first : Int} {items : List Value} (h : Rng T e w R g most first items) : g < w.heap.size := by
  obtain ⟨_, _, _, _, _, hg⟩ := h; exact hg
theorem push_inv2 {w : World} {R g M k F : Nat} {items : List Value} {xs : List Int} {x : Int} (h : Rng 46 2 w R g M F items) (hi : RInv (vis xs) M k F items) (hM : 1 ≤ M) (hx : xs[k]? = some x) (hk : k ≤ 1000000) :
    Calls Try.prog 9 #[.pointer (some ⟨R, 0, none⟩), .int .i64 x] w fun e w' => ∃ (o : Int) (b : Bool) (F' g' : Nat) (items' : List Value), e = .returned (.tuple #[.int .i64 o, .bool b]) ∧ Rng 46 2 w' R g' M F' items' ∧ RInv (vis xs) M (k + 1) F' items' ∧ (g' = g ∨ w.heap.size ≤ g') ∧ Tw w w' R g := by
  by_cases hkM : k < M
  · obtain ⟨rfl, hN⟩ := hi.room hkM (vis_get hx)
    have hil : items.length = k := by rw [hi.len]; omega
    refine (push_room h (by rw [hil]; omega) (by rw [hil]; exact hk) x).mono ?_
    rintro _ w' ⟨rfl, g', h1, h2, h3⟩
    exact ⟨0, false, 0, g', _, rfl, h1, hN, h2, h3⟩
  · obtain ⟨hF, hl, h0, hN⟩ := hi.full hM (by omega) (vis_get hx)
    have hkl : k < xs.length := (List.getElem?_eq_some_iff.1 hx).1
    obtain ⟨y, hy⟩ : ∃ y, xs[k - M]? = some y := ⟨xs[k - M]'(by omega), List.getElem?_eq_getElem _⟩
    rw [vis_get hy] at h0
    refine (push_full (x := x) (y := y) h hl (by omega) (by omega) hF h0).mono ?_
    rintro _ w' ⟨rfl, h1, h3⟩
    exact ⟨y, true, _, g, _, rfl, h1, hN, .inl rfl, h3⟩
theorem rx_of {w : World} {R g M k F : Nat} {items : List Value} {xs : List Int} (h : Rng 46 2 w R g M F items) (hi : RInv (vis xs) M k F items) (hk : xs.length = k) : Rx w R g (min k M) F M items (xs.drop (k - min k M)) :=
  ⟨h, hi.len, by rw [List.length_drop]; omega, hi.lt, fun j x hj => by
    have hjl : j < min k M := by have := (List.getElem?_eq_some_iff.1 hj).1; rw [List.length_drop] at this; omega
    rw [hi.at' j hjl]
    rw [List.getElem?_drop] at hj
    exact vis_get hj⟩
set_option maxHeartbeats 8000000 in
theorem walks_go (w : World) (a0 : Int) (M : Nat) (hM : (a0 < 1 ∧ M = 1) ∨ (a0 = M ∧ 1 ≤ M)) (A : Option Addr) (len cap b off : Nat) (xs : List Int) (h : Ints w A len b off xs) (hcap : len ≤ cap) (hl : len ≤ 80) (st : Int) :
    Calls Try.prog 6 #[.int .i64 a0, .slice A len cap, .int .i64 st] w fun e w' => e = .returned (.bool true) ∧ Below w.heap.size w w' := by
  have hM1 : 1 ≤ M := by omega
  have hmx : max a0 1 = (M : Int) := by omega
  have CF := Lib.hid first_any
  have HI := Lib.hid h
  have HMX := Lib.hid hmx
  have HMM := Lib.hid hM
  have hci : (len : Int) ≤ (cap : Int) := by omega
  clear h hmx hM
  have H0 := Lib.hid ((Below.refl w.heap.size w).alloc (Nat.le_refl _) (.cells #[.int .i64 st] 3))
  have HST := Lib.hid (Blk.new w 3 #[.int .i64 st])
  obtain ⟨wA, hwA⟩ : ∃ wA, w.alloc (.cells #[.int .i64 st] 3) = wA := ⟨_, rfl⟩
  have hsA : wA.heap.size = w.heap.size + 1 := by rw [← hwA]; simp
  have HSA := Lib.hid hsA
  rw [hwA] at H0 HST
  have HWA := Lib.hid hwA
  clear hsA
  refine calls_marks Try.func6 rfl ?_
  simp only [Try.ntmps6, List.size_toArray, List.length_cons, List.length_nil, Nat.reduceAdd, Nat.reduceSub, Array.replicate_succ, Array.replicate_zero, List.push_toArray, List.append_toArray, List.nil_append, List.cons_append]
  go_wp2_with fail
  try rw [hwA]
  clear hwA
  refine (CF.out _).mono ?_
  rintro _ w1 ⟨rfl, h1⟩
  have HST1 := Lib.hid ((h1.block w.heap.size HST.out.lt).trans HST.out)
  have H1 := Lib.hid (H0.out.trans (h1.mono (by rw [HSA.out]; omega)))
  have HS1 := Lib.hid (show w.heap.size < w1.heap.size by have := h1.size; rw [HSA.out] at this; omega)
  clear h1
  go_wp2_with (first
    | (go_at_call 8
       refine (new_any _ _).mono ?_
       rintro _ w2 ⟨rfl, h1, h2⟩
       rw [HMX.out] at h1
       have HR := Lib.hid h1
       have H2 := Lib.hid h2
       obtain ⟨R, hR⟩ : ∃ R, w1.heap.size = R := ⟨_, rfl⟩
       have HRS := Lib.hid hR
       rw [hR] at HR ⊢
       clear h1 h2 hR)
    | fail)
  go_loopw [8] (fun i wr => ∃ (k F g : Nat) (items : List Value), k ≤ len ∧ i = .int .i64 (k : Int) ∧ Rng 46 2 wr R g M F items ∧ RInv (vis xs) M k F items ∧ w1.heap.size ≤ g ∧ Below w1.heap.size w1 wr) (fun i _ => len - (intOf i).toNat)
  case atStart => exact ⟨0, 0, R, [], Nat.zero_le _, rfl, HR.out, RInv.start _ _, Nat.le_of_eq HRS.out, H2.out⟩
  case round =>
    obtain ⟨k, F, g, items, hk, rfl, hR, hI, hg, hU⟩ := hrel
    have HRG := Lib.hid hR
    have HINV := Lib.hid hI
    have HGG := Lib.hid hg
    have HU := Lib.hid hU
    clear hR hI hg hU
    by_cases hlt : k < len
    · obtain ⟨x, hx⟩ : ∃ x, xs[k]? = some x := ⟨xs[k]'(by rw [HI.out.hlen]; exact hlt), List.getElem?_eq_getElem _⟩
      obtain ⟨rfl, hbw⟩ := HI.out.addr (by omega)
      have HX := Lib.hid hx
      have cx := (HI.out.below (H1.out.trans (HU.out.mono (by have := HS1.out; omega)))).cell k x hx
      have hki : (k : Int) < (len : Int) := by omega
      clear hx hbw
      go_wp2_with (first
        | (go_at_call 9
           refine (push_inv2 HRG.out HINV.out hM1 HX.out (by omega)).mono ?_
           rintro _ w3 ⟨o, bb, F3, g3, items3, rfl, h1, h2, h3, h4⟩
           have HR3 := Lib.hid h1
           have HI3 := Lib.hid h2
           have H3 := Lib.hid (HU.out.trans (h4.below (Nat.le_of_eq HRS.out) HGG.out HU.out.size))
           have HG3 := Lib.hid (show w1.heap.size ≤ g3 by have := HU.out.size; have := HGG.out; omega)
           clear h1 h2 h3 h4)
        | fail)
      go_roundw
      case rel => exact ⟨k + 1, F3, g3, items3, by omega, by go_num, HR3.out, HI3.out, HG3.out, H3.out⟩
      case measure => simp [intOf]; omega
    · obtain rfl : k = len := by omega
      have HRX := Lib.hid (rx_of HRG.out HINV.out HI.out.hlen)
      obtain ⟨n, hn⟩ : ∃ n, min k M = n := ⟨_, rfl⟩
      obtain ⟨ys, hys⟩ : ∃ ys, xs.drop (k - n) = ys := ⟨_, rfl⟩
      rw [hn, hys] at HRX
      have HN := Lib.hid hn
      have HYS := Lib.hid hys
      clear hn hys hlt
      go_wp2_with (first
        | (go_at_call 16
           refine (all_fn R _).mono ?_
           rintro _ wz ⟨rfl, hw0⟩)
        | fail)
      --MARK
      obtain ⟨W0, hW0⟩ : ∃ W0, ((((wr.alloc (.cells #[.slice none 0 0] 22)).alloc (.cells #[.slice none 0 0] 22)).alloc (.cells #[.int .i64 0] 3)).alloc (.cells #[.int .i64 0] 3)).alloc (.cells #[.pointer (some ⟨R, 0, none⟩)] 24) = W0 := ⟨_, rfl⟩
      have hsW : W0.heap.size = wr.heap.size + 5 := by rw [← hW0]; simp
      have HB0 := Lib.hid (show Below wr.heap.size wr W0 from hW0 ▸ (((((Below.refl _ wr).alloc (Nat.le_refl _) _).alloc (by simp) _).alloc (by simp; omega) _).alloc (by simp; omega) _).alloc (by simp; omega) _)
      have bA : Blk W0 wr.heap.size 22 #[.slice none 0 0] := hW0 ▸ (((((Blk.new wr 22 #[.slice none 0 0]).alloc _).alloc _).alloc _).alloc _)
      have bB : Blk W0 (wr.heap.size + 1) 22 #[.slice none 0 0] := by
        have := ((((Blk.new (wr.alloc (.cells #[.slice none 0 0] 22)) 22 #[.slice none 0 0]).alloc (.cells #[.int .i64 0] 3)).alloc (.cells #[.int .i64 0] 3)).alloc (.cells #[.pointer (some ⟨R, 0, none⟩)] 24))
        rw [World.size_alloc] at this
        rw [← hW0]; exact this
      have bN : Blk W0 (wr.heap.size + 1 + 1) 3 #[.int .i64 0] := by
        have := (((Blk.new ((wr.alloc (.cells #[.slice none 0 0] 22)).alloc (.cells #[.slice none 0 0] 22)) 3 #[.int .i64 0]).alloc (.cells #[.int .i64 0] 3)).alloc (.cells #[.pointer (some ⟨R, 0, none⟩)] 24))
        rw [World.size_alloc, World.size_alloc] at this
        rw [← hW0]; exact this
      have bF : Blk W0 (wr.heap.size + 1 + 1 + 1) 3 #[.int .i64 0] := by
        have := ((Blk.new (((wr.alloc (.cells #[.slice none 0 0] 22)).alloc (.cells #[.slice none 0 0] 22)).alloc (.cells #[.int .i64 0] 3)) 3 #[.int .i64 0]).alloc (.cells #[.pointer (some ⟨R, 0, none⟩)] 24))
        rw [World.size_alloc, World.size_alloc, World.size_alloc] at this
        rw [← hW0]; exact this
      have bM : Blk W0 (wr.heap.size + 1 + 1 + 1 + 1) 24 #[.pointer (some ⟨R, 0, none⟩)] := by
        have := Blk.new ((((wr.alloc (.cells #[.slice none 0 0] 22)).alloc (.cells #[.slice none 0 0] 22)).alloc (.cells #[.int .i64 0] 3)).alloc (.cells #[.int .i64 0] 3)) 24 #[.pointer (some ⟨R, 0, none⟩)]
        rw [World.size_alloc, World.size_alloc, World.size_alloc, World.size_alloc] at this
        rw [← hW0]; exact this
      rw [hW0] at hw0 ⊢
      have hRW := HRX.out.keep (HB0.out.block R HRX.out.rng.lt) (HB0.out.block g HRX.out.rng.glt2)
      have hRlt : R < wr.heap.size := HRX.out.rng.lt
      have hglt : g < wr.heap.size := HRX.out.rng.glt2
      have hstW : Blk W0 w.heap.size 3 #[.int .i64 st] := (HB0.out.block _ (by have := HS1.out; have := HU.out.size; omega)).trans ((HU.out.block _ HS1.out).trans HST1.out)
      have hBst : w.heap.size < wr.heap.size := by have := HS1.out; have := HU.out.size; omega
      have hnlt : n ≤ 80 := by rw [← HN.out]; omega
      have hst := all_stops 5 R g (wr.heap.size + 1 + 1 + 1 + 1) n F M items ys W0 hRW (by omega) bM
      have hyl : ys.length = n := HRX.out.xln
      obtain ⟨Ba, hBa⟩ : ∃ Ba, wr.heap.size = Ba := ⟨_, rfl⟩
      obtain ⟨Bn, hBn⟩ : ∃ Bn, Ba + 1 + 1 = Bn := ⟨_, rfl⟩
      rw [hBa] at bA bB bN bF bM hst hRlt hglt hBst hsW ⊢
      rw [hBn] at bN bF bM hst ⊢
      clear hw0
      refine range_plain (gf := 20) (lb := #[.pointer (some ⟨Bn + 1 + 1, 0, none⟩)]) rfl (enters_of Try.func20 (by kernel_rfl) rfl) hst (fun h k => h.trans k) (fun W l o o' hl h1 h2 h3 b hb => World.putObj_heap_other (by simp at hb; omega)) (fun _ => rfl)
        (fun pre W => Lw W0 W Ba Bn (pre.map Prod.snd) ((pre.length : Nat) : Int) ∧ ∀ p ∈ pre, p.1 < st)
        (fun c ys W => c = .exit 2 ∧ ∃ pre x, ys = pre ++ [x] ∧ Lw W0 W Ba Bn (pre.map Prod.snd) ((pre.length : Nat) : Int) ∧ (∀ p ∈ pre, p.1 < st) ∧ (x.1 = ((pre.length : Nat) : Int) → st ≤ x.1))
        (fun s A B row hs hg hr => ⟨hs.1.own hg hr, hs.2⟩)
        (fun c s A B row hs hg hr => by
          obtain ⟨h1, pre, x, h2, h3, h4⟩ := hs
          exact ⟨h1, pre, x, h2, h3.own hg hr, h4⟩)
        ⟨⟨⟨_, bA, World.ownsRow_nil _ _ _ _⟩, bN, Tw.refl _ _ _⟩, fun p hp => by cases hp⟩
        2 (fun W => Lw W0 W Ba Bn (ys.take (min n st.toNat)) ((min n st.toNat : Nat) : Int))
        (fun xs' W hS hI => ?S1) (fun c pre W hSp hIx => ?X1) (fun a w h => by simpa [Exit.inBlock] using h) ?a1 ?assign ?body ?rest
      case assign =>
        intro l x W K hK
        simp only [enP]
        gi_wp2
        exact hK
      case S1 =>
        obtain ⟨h1, h2⟩ := hI
        subst hS
        obtain ⟨h3, h4⟩ := walk_done hyl h2
        rw [h3, h4] at h1
        exact h1
      case X1 =>
        obtain ⟨h1, pre', x, rfl, h2, h3, h4⟩ := hIx
        obtain ⟨h5, h6⟩ := walk_left hyl hSp h3 h4
        rw [h5, h6] at h2
        exact ⟨h1, h2⟩
      case body =>
        rintro l pre ⟨xi, x⟩ W ⟨⟨⟨v, hbx, hrow⟩, hcn, htw⟩, hlt⟩ hplt
        rw [List.length_map] at hrow
        have cn0 := hcn.cell 0
        have cst : W.cell? ⟨w.heap.size, 0, none⟩ = some (.int .i64 st) := (show Blk W w.heap.size 3 #[.int .i64 st] from (htw.block _ hstW.lt (by omega) (by omega)).trans hstW).cell 0
        simp only [List.getElem?_toArray, List.getElem?_cons_zero] at cn0
        have hpI : ((pre.length : Nat) : Int) ≤ 80 := by omega
        have HBX := Lib.hid hbx
        have HROW := Lib.hid hrow
        have HCN := Lib.hid hcn
        have HTW := Lib.hid htw
        have HLT := Lib.hid hlt
        clear hlt
        by_cases h1 : xi = ((pre.length : Nat) : Int)
        · subst h1
          by_cases h2 : ((pre.length : Nat) : Int) ≥ st
          · clear hbx hrow hcn htw
            gi_wp2
            exact ⟨(KeepsOthers.refl _).from _, rfl, pre, _, rfl, ⟨⟨v, HBX.out, by rw [List.length_map]; exact HROW.out⟩, HCN.out, HTW.out⟩, HLT.out, fun _ => h2⟩
          · have HNE := Lib.hid (show Bn ≠ Ba by omega)
            clear hbx hrow hcn htw
            gi_wp2
            have hbx := HBX.out
            have hcn := HCN.out
            have hrow := HROW.out
            have htw := HTW.out
            have ca : W.drew.cell? ⟨Ba, 0, none⟩ = some v := hbx.cell 0
            have cn : W.drew.cell? ⟨Bn, 0, none⟩ = some (.int .i64 ((pre.length : Nat) : Int)) := hcn.cell 0
            obtain ⟨We, hWe⟩ : ∃ We, W.drew.alloc (.cells #[.int .i64 x] 2) = We := ⟨_, rfl⟩
            have ba2 : Blk We Ba 22 #[v] := hWe ▸ Blk.alloc (Blk.drew hbx) _
            have bn2 : Blk We Bn 3 #[.int .i64 ((pre.length : Nat) : Int)] := hWe ▸ Blk.alloc (Blk.drew hcn) _
            have be2 : Blk We W.heap.size 2 #[.int .i64 x] := hWe ▸ Blk.new W.drew 2 _
            have hr2 : We.ownsRow W0.heap.size 2 1 v pre.length (vis (pre.map Prod.snd)) := hWe ▸ World.ownsRow.alloc hrow _
            have hs2 : W0.heap.size ≤ We.heap.size := by rw [← hWe, World.size_alloc]; have := htw.size; show _ ≤ W.heap.size + 1; omega
            have BA2 := Lib.hid ba2
            have BN2 := Lib.hid bn2
            have BE2 := Lib.hid be2
            have HR2 := Lib.hid hr2
            have HS2 := Lib.hid hs2
            have HWE := Lib.hid hWe
            clear ba2 bn2 be2 hr2 hs2
            refine wpIn_region_E [([6], fun w' => w'.cell? ⟨Ba, 0, none⟩ = some v), ([7], fun w' => w'.cell? ⟨Bn, 0, none⟩ = some (.int .i64 ((pre.length : Nat) : Int)))] (by kernel_rfl) (by kernel_rfl) ⟨fun _ => ca, fun _ => cn, trivial⟩ (fun hHeld => ?_)
            refine wpAnyE_take (i := 1) (v := ?_) rfl (by kernel_rfl) (by kernel_rfl) (by kernel_rfl) (by kernel_rfl) (fun _ _ _ h => h) (Or.inl ⟨by rfl, ?_⟩) hHeld (fun hHeld => ?_)
            rotate_left
            · (intro w hSw; (try dsimp only at hSw); (try simp only [List.getElem_toArray, List.getElem_cons_succ, List.getElem_cons_zero]); go_simp; try with_reducible rfl)
            try simp only [List.getElem_toArray, List.getElem_cons_succ, List.getElem_cons_zero, Act.put, List.setIfInBounds_toArray, List.set_cons_zero, List.set_cons_succ]
            refine wpAnyE_load (i := 0) _ _ (v := ?_) rfl (by kernel_rfl) List.mem_cons_self (by kernel_rfl) (by kernel_rfl) (by kernel_rfl) (by kernel_rfl) (fun _ _ _ h => h) (Or.inl ⟨by rfl, ?_⟩) hHeld (fun hHeld => ?_)
            rotate_left
            · (intro w hSw; (try dsimp only at hSw); (try simp only [List.getElem_toArray, List.getElem_cons_succ, List.getElem_cons_zero]); go_simp; try with_reducible rfl)
            try simp only [List.getElem_toArray, List.getElem_cons_succ, List.getElem_cons_zero, Act.put, List.setIfInBounds_toArray, List.set_cons_zero, List.set_cons_succ]
            refine wpAnyE_load (i := 4) _ _ (v := ?_) rfl (by kernel_rfl) (List.mem_cons_of_mem _ List.mem_cons_self) (by kernel_rfl) (by kernel_rfl) (by kernel_rfl) (by kernel_rfl) (fun _ _ _ h => h) (Or.inl ⟨by rfl, ?_⟩) hHeld (fun hHeld => ?_)
            rotate_left
            · (intro w hSw; (try dsimp only at hSw); (try simp only [List.getElem_toArray, List.getElem_cons_succ, List.getElem_cons_zero]); go_simp; try with_reducible rfl)
            try simp only [List.getElem_toArray, List.getElem_cons_succ, List.getElem_cons_zero, Act.put, List.setIfInBounds_toArray, List.set_cons_zero, List.set_cons_succ]
            refine wpAnyE_take (i := 5) (v := ?_) rfl (by kernel_rfl) (by kernel_rfl) (by kernel_rfl) (by kernel_rfl) (fun _ _ _ h => h) (Or.inl ⟨by rfl, ?_⟩) hHeld (fun hHeld => ?_)
            rotate_left
            · (intro w hSw; (try dsimp only at hSw); (try simp only [List.getElem_toArray, List.getElem_cons_succ, List.getElem_cons_zero]); go_simp; try with_reducible rfl)
            try simp only [List.getElem_toArray, List.getElem_cons_succ, List.getElem_cons_zero, Act.put, List.setIfInBounds_toArray, List.set_cons_zero, List.set_cons_succ]
            refine wpAnyE_ready (rs := [2]) (by kernel_rfl) (by simp) (AllE.cons rfl (fun K hK => ?_) AllE.nil)
            clear hHeld
            go_simp
            refine hK.out _ _ ⟨fun _ => BA2.out.cell 0, fun _ => BN2.out.cell 0, trivial⟩ (fun hHeld => ?_)
            clear hK K
            try simp only [List.getElem_toArray, List.getElem_cons_succ, List.getElem_cons_zero, Act.put, List.setIfInBounds_toArray, List.set_cons_zero, List.set_cons_succ]
            try rw [hWe]
            clear hWe
            refine wpAnyE_ready (rs := [3]) (by kernel_rfl) (by simp) (AllE.cons rfl (fun K hK => ?_) AllE.nil)
            clear hHeld
            refine step_push (v := v) (n := pre.length) (l := (pre.map Prod.snd)) rfl (.tmp 53) (.tmp 55) rfl rfl HR2.out x W.heap.size rfl BE2.out (by omega) HS2.out ?_
            intro g' cap' w2 h1 h2
            have ba3 : Blk w2 Ba 22 #[v] := blk_row BA2.out HR2.out (by decide) h2
            have bn3 : Blk w2 Bn 3 #[.int .i64 ((pre.length : Nat) : Int)] := blk_row BN2.out HR2.out (by decide) h2
            have H1 := Lib.hid h1
            have H2 := Lib.hid h2
            clear h1 h2
            have ca3 : w2.cell? ⟨Ba, 0, none⟩ = some v := ba3.cell 0
            have fa3 := ba3.frozen 0
            have cn3 : w2.cell? ⟨Bn, 0, none⟩ = some (.int .i64 ((pre.length : Nat) : Int)) := bn3.cell 0
            have fn3 := bn3.frozen 0
            have BN4 := Lib.hid (bn3.far (p := ⟨Ba, 0, none⟩) HNE.out (.slice (some ⟨g', 0, none⟩) (pre.length + 1) cap'))
            have cn4 := BN4.out.cell 0
            have fn4 := BN4.out.frozen 0
            clear ba3 bn3
            refine hK.out _ _ ⟨fun _ => ca3, fun _ => cn3, trivial⟩ (fun hHeld => ?_)
            clear hK K
            try simp only [List.getElem_toArray, List.getElem_cons_succ, List.getElem_cons_zero, Act.put, List.setIfInBounds_toArray, List.set_cons_zero, List.set_cons_succ]
            refine wpAnyE_ready (rs := [6]) (by kernel_rfl) (by simp) (AllE.cons rfl (fun K hK => ?_) AllE.nil)
            clear hHeld
            go_simp
            refine hK.out _ _ ⟨(fun e => absurd e (Bool.eq_false_iff.1 (by kernel_rfl))), fun _ => (by exact cn4), trivial⟩ (fun hHeld => ?_)
            clear hK K
            try simp only [List.getElem_toArray, List.getElem_cons_succ, List.getElem_cons_zero, Act.put, List.setIfInBounds_toArray, List.set_cons_zero, List.set_cons_succ]
            refine wpAnyE_ready (rs := [7]) (by kernel_rfl) (by simp) (AllE.cons rfl (fun K hK => ?_) AllE.nil)
            clear hHeld
            go_simp
            refine hK.out _ _ ⟨(fun e => absurd e (Bool.eq_false_iff.1 (by kernel_rfl))), (fun e => absurd e (Bool.eq_false_iff.1 (by kernel_rfl))), trivial⟩ (fun hHeld => ?_)
            clear hK K
            try simp only [List.getElem_toArray, List.getElem_cons_succ, List.getElem_cons_zero, Act.put, List.setIfInBounds_toArray, List.set_cons_zero, List.set_cons_succ]
            refine wpAnyE_done (by kernel_rfl) (only_normal ?_) _

            have HP := Lib.hid (Lw.push HBX.out HROW.out HCN.out HTW.out (List.length_map ..) (.cells #[.int .i64 x] 2) H1.out (by rw [HWE.out]; exact H2.out) (IntKind.i64.wrap (((pre.length : Nat) : Int) + 1)))
            gi_wp2
            obtain ⟨h5, h6⟩ := HP.out
            refine ⟨h6.from _, fun b hb => ?_, ?_, fun p hp => ?_⟩
            · refine (h5.tw.block b ?_ ?_ ?_).trans (HTW.out.block b ?_ ?_ ?_).symm <;> (simp at hb; omega)
            · have e : IntKind.i64.wrap (((pre.length : Nat) : Int) + 1) = ((pre.length + 1 : Nat) : Int) := by rw [IntWalk.i64_in _ (by omega)]; push_cast; rfl
              rw [e] at h5 ⊢
              simpa [List.map_append] using h5
            · rcases List.mem_append.1 hp with hp | hp
              · exact HLT.out p hp
              · rw [List.mem_singleton] at hp
                subst hp
                show ((pre.length : Nat) : Int) < st
                omega
        · have hb1 : (xi != ((pre.length : Nat) : Int)) = true := by simpa using h1
          clear hbx hrow hcn htw
          gi_wp2
          exact ⟨(KeepsOthers.refl _).from _, rfl, pre, _, rfl, ⟨⟨v, HBX.out, by rw [List.length_map]; exact HROW.out⟩, HCN.out, HTW.out⟩, HLT.out, fun e => absurd e h1⟩
      case rest =>
        intro D W3 hD hA hKD
        obtain ⟨m, hm⟩ : ∃ m, min n st.toNat = m := ⟨_, rfl⟩
        rw [hm] at hA
        have HM2 := Lib.hid hm
        have HA := Lib.hid hA
        have HKD := Lib.hid hKD
        have HDD := Lib.hid hD
        clear hA hKD hm hD
        go_wp2_with (first
          | (go_at_call 17
             refine (back_fn R _).mono ?_
             rintro _ wz ⟨rfl, hw0⟩)
          | fail)
        obtain ⟨W4, hW4⟩ : ∃ W4, W3.alloc (.cells #[.pointer (some ⟨R, 0, none⟩)] 24) = W4 := ⟨_, rfl⟩
        rw [hW4]
        clear hw0
        have htA := HA.out.tw
        have hs3 : W0.heap.size ≤ W3.heap.size := htA.size
        have hs4 : W4.heap.size = W3.heap.size + 1 := by rw [← hW4]; simp
        have hb4 : Below W3.heap.size W3 W4 := hW4 ▸ (Below.refl _ W3).alloc (Nat.le_refl _) _
        have hk4 : ∀ b, b < W0.heap.size → b ≠ Ba → b ≠ Bn → W4.heap[b]? = W0.heap[b]? := fun b h1 h2 h3 => (hb4.block b (by omega)).trans (htA.block b h1 h2 h3)
        have bM4 : Blk W4 W3.heap.size 24 #[.pointer (some ⟨R, 0, none⟩)] := hW4 ▸ Blk.new W3 24 _
        have bB4 : Blk W4 (Ba + 1) 22 #[.slice none 0 0] := (hk4 _ bB.lt (by omega) (by omega)).trans bB
        have bF4 : Blk W4 (Bn + 1) 3 #[.int .i64 0] := (hk4 _ bF.lt (by omega) (by omega)).trans bF
        have bS4 : Blk W4 w.heap.size 3 #[.int .i64 st] := (hk4 _ hstW.lt (by omega) (by omega)).trans hstW
        have hR4 := hRW.keep (hk4 R (by omega) (by omega) (by omega)) (hk4 g (by omega) (by omega) (by omega))
        have hK4 : W4.heap[D]? = some (.deferred (some [])) := (hb4.block D (by
          rcases Nat.lt_or_ge D W3.heap.size with hlt | hge
          · exact hlt
          · have := HKD.out; rw [Array.getElem?_eq_none hge] at this; cases this)).trans HKD.out
        have hDlt : D < W4.heap.size := by
          rcases Nat.lt_or_ge D W4.heap.size with hlt | hge
          · exact hlt
          · rw [Array.getElem?_eq_none hge] at hK4; cases hK4
        have hst2 := back_stops 5 R g W3.heap.size n F M items ys W4 hR4 (by omega) bM4
        have hDD := HDD.out
        refine range_plain (gf := 21) (lb := #[.pointer (some ⟨W3.heap.size, 0, none⟩)]) rfl (enters_of Try.func21 (by kernel_rfl) rfl) hst2 (fun h k => h.trans k) (fun W l o o' hl h1 h2 h3 b hb => World.putObj_heap_other (by simp at hb; omega)) (fun _ => rfl)
          (fun pre W => Lw W4 W (Ba + 1) (Bn + 1) pre ((pre.length : Nat) : Int) ∧ ((pre.length : Nat) : Int) ≤ max st 0)
          (fun c ys W => c = .exit 4 ∧ ∃ pre x, ys = pre ++ [x] ∧ Lw W4 W (Ba + 1) (Bn + 1) pre ((pre.length : Nat) : Int) ∧ ((pre.length : Nat) : Int) ≤ max st 0 ∧ st ≤ ((pre.length : Nat) : Int))
          (fun s A B row hs hg hr => ⟨hs.1.own hg hr, hs.2⟩)
          (fun c s A B row hs hg hr => by
            obtain ⟨h1, pre, x, h2, h3, h4⟩ := hs
            exact ⟨h1, pre, x, h2, h3.own hg hr, h4⟩)
          ⟨⟨⟨_, bB4, World.ownsRow_nil _ _ _ _⟩, bF4, Tw.refl _ _ _⟩, by simp only [List.length_nil]; omega⟩
          4 (fun W => Lw W4 W (Ba + 1) (Bn + 1) (ys.reverse.take m) ((m : Nat) : Int))
          (fun xs' W hS hI => ?S2) (fun c pre W hSp hIx => ?X2) (fun a w h => by simpa [Exit.inBlock] using h) ?a2 ?assign2 ?body2 ?rest2
        case assign2 =>
          intro l x W K hK
          simp only [enI]
          gi_wp2
          exact hK
        case S2 =>
          obtain ⟨h1, h2⟩ := hI
          subst hS
          have hl : ys.reverse.length = n := by rw [List.length_reverse]; exact hyl
          obtain ⟨h3, h4⟩ := back_done hyl (List.prefix_refl _) h2 (.inl hl)
          rw [HM2.out] at h3 h4
          rw [h4] at h1
          rw [← h3]
          exact h1
        case X2 =>
          obtain ⟨h1, pre', x, rfl, h2, h3, h4⟩ := hIx
          obtain ⟨h5, h6⟩ := back_done hyl ((List.prefix_append _ _).trans hSp) h3 (.inr h4)
          rw [HM2.out] at h5 h6
          rw [h6] at h2
          rw [← h5]
          exact ⟨h1, h2⟩
        case body2 =>
          rintro l pre x W ⟨⟨⟨v, hbx, hrow⟩, hcn, htw⟩, hlt⟩ hplt
          have cn0 := hcn.cell 0
          have cst : W.cell? ⟨w.heap.size, 0, none⟩ = some (.int .i64 st) := (show Blk W w.heap.size 3 #[.int .i64 st] from (htw.block _ bS4.lt (by omega) (by omega)).trans bS4).cell 0
          simp only [List.getElem?_toArray, List.getElem?_cons_zero] at cn0
          have hpI : ((pre.length : Nat) : Int) ≤ 80 := by omega
          have HBX := Lib.hid hbx
          have HROW := Lib.hid hrow
          have HCN := Lib.hid hcn
          have HTW := Lib.hid htw
          have HLT := Lib.hid hlt
          clear hlt
          by_cases h2 : ((pre.length : Nat) : Int) ≥ st
          · clear hbx hrow hcn htw
            gi_wp2
            exact ⟨(KeepsOthers.refl _).from _, rfl, pre, _, rfl, ⟨⟨v, HBX.out, HROW.out⟩, HCN.out, HTW.out⟩, HLT.out, h2⟩
          · have HNE := Lib.hid (show Bn + 1 ≠ Ba + 1 by omega)
            clear hbx hrow hcn htw
            gi_wp2
            have hbx := HBX.out
            have hcn := HCN.out
            have hrow := HROW.out
            have htw := HTW.out
            have ca : W.drew.cell? ⟨(Ba + 1), 0, none⟩ = some v := hbx.cell 0
            have cn : W.drew.cell? ⟨(Bn + 1), 0, none⟩ = some (.int .i64 ((pre.length : Nat) : Int)) := hcn.cell 0
            obtain ⟨We, hWe⟩ : ∃ We, W.drew.alloc (.cells #[.int .i64 x] 2) = We := ⟨_, rfl⟩
            have ba2 : Blk We (Ba + 1) 22 #[v] := hWe ▸ Blk.alloc (Blk.drew hbx) _
            have bn2 : Blk We (Bn + 1) 3 #[.int .i64 ((pre.length : Nat) : Int)] := hWe ▸ Blk.alloc (Blk.drew hcn) _
            have be2 : Blk We W.heap.size 2 #[.int .i64 x] := hWe ▸ Blk.new W.drew 2 _
            have hr2 : We.ownsRow W4.heap.size 2 1 v pre.length (vis pre) := hWe ▸ World.ownsRow.alloc hrow _
            have hs2 : W4.heap.size ≤ We.heap.size := by rw [← hWe, World.size_alloc]; have := htw.size; show _ ≤ W.heap.size + 1; omega
            have BA2 := Lib.hid ba2
            have BN2 := Lib.hid bn2
            have BE2 := Lib.hid be2
            have HR2 := Lib.hid hr2
            have HS2 := Lib.hid hs2
            have HWE := Lib.hid hWe
            clear ba2 bn2 be2 hr2 hs2
            refine wpIn_region_E [([6], fun w' => w'.cell? ⟨(Ba + 1), 0, none⟩ = some v), ([7], fun w' => w'.cell? ⟨(Bn + 1), 0, none⟩ = some (.int .i64 ((pre.length : Nat) : Int)))] (by kernel_rfl) (by kernel_rfl) ⟨fun _ => ca, fun _ => cn, trivial⟩ (fun hHeld => ?_)
            refine wpAnyE_take (i := 1) (v := ?_) rfl (by kernel_rfl) (by kernel_rfl) (by kernel_rfl) (by kernel_rfl) (fun _ _ _ h => h) (Or.inl ⟨by rfl, ?_⟩) hHeld (fun hHeld => ?_)
            rotate_left
            · (intro w hSw; (try dsimp only at hSw); (try simp only [List.getElem_toArray, List.getElem_cons_succ, List.getElem_cons_zero]); go_simp; try with_reducible rfl)
            try simp only [List.getElem_toArray, List.getElem_cons_succ, List.getElem_cons_zero, Act.put, List.setIfInBounds_toArray, List.set_cons_zero, List.set_cons_succ]
            refine wpAnyE_load (i := 0) _ _ (v := ?_) rfl (by kernel_rfl) List.mem_cons_self (by kernel_rfl) (by kernel_rfl) (by kernel_rfl) (by kernel_rfl) (fun _ _ _ h => h) (Or.inl ⟨by rfl, ?_⟩) hHeld (fun hHeld => ?_)
            rotate_left
            · (intro w hSw; (try dsimp only at hSw); (try simp only [List.getElem_toArray, List.getElem_cons_succ, List.getElem_cons_zero]); go_simp; try with_reducible rfl)
            try simp only [List.getElem_toArray, List.getElem_cons_succ, List.getElem_cons_zero, Act.put, List.setIfInBounds_toArray, List.set_cons_zero, List.set_cons_succ]
            refine wpAnyE_load (i := 4) _ _ (v := ?_) rfl (by kernel_rfl) (List.mem_cons_of_mem _ List.mem_cons_self) (by kernel_rfl) (by kernel_rfl) (by kernel_rfl) (by kernel_rfl) (fun _ _ _ h => h) (Or.inl ⟨by rfl, ?_⟩) hHeld (fun hHeld => ?_)
            rotate_left
            · (intro w hSw; (try dsimp only at hSw); (try simp only [List.getElem_toArray, List.getElem_cons_succ, List.getElem_cons_zero]); go_simp; try with_reducible rfl)
            try simp only [List.getElem_toArray, List.getElem_cons_succ, List.getElem_cons_zero, Act.put, List.setIfInBounds_toArray, List.set_cons_zero, List.set_cons_succ]
            refine wpAnyE_take (i := 5) (v := ?_) rfl (by kernel_rfl) (by kernel_rfl) (by kernel_rfl) (by kernel_rfl) (fun _ _ _ h => h) (Or.inl ⟨by rfl, ?_⟩) hHeld (fun hHeld => ?_)
            rotate_left
            · (intro w hSw; (try dsimp only at hSw); (try simp only [List.getElem_toArray, List.getElem_cons_succ, List.getElem_cons_zero]); go_simp; try with_reducible rfl)
            try simp only [List.getElem_toArray, List.getElem_cons_succ, List.getElem_cons_zero, Act.put, List.setIfInBounds_toArray, List.set_cons_zero, List.set_cons_succ]
            refine wpAnyE_ready (rs := [2]) (by kernel_rfl) (by simp) (AllE.cons rfl (fun K hK => ?_) AllE.nil)
            clear hHeld
            go_simp
            refine hK.out _ _ ⟨fun _ => BA2.out.cell 0, fun _ => BN2.out.cell 0, trivial⟩ (fun hHeld => ?_)
            clear hK K
            try simp only [List.getElem_toArray, List.getElem_cons_succ, List.getElem_cons_zero, Act.put, List.setIfInBounds_toArray, List.set_cons_zero, List.set_cons_succ]
            try rw [hWe]
            clear hWe
            refine wpAnyE_ready (rs := [3]) (by kernel_rfl) (by simp) (AllE.cons rfl (fun K hK => ?_) AllE.nil)
            clear hHeld
            refine step_push (v := v) (n := pre.length) (l := pre) rfl (.tmp 65) (.tmp 67) rfl rfl HR2.out x W.heap.size rfl BE2.out (by omega) HS2.out ?_
            intro g' cap' w2 h1 h2
            have ba3 : Blk w2 (Ba + 1) 22 #[v] := blk_row BA2.out HR2.out (by decide) h2
            have bn3 : Blk w2 (Bn + 1) 3 #[.int .i64 ((pre.length : Nat) : Int)] := blk_row BN2.out HR2.out (by decide) h2
            have H1 := Lib.hid h1
            have H2 := Lib.hid h2
            clear h1 h2
            have ca3 : w2.cell? ⟨(Ba + 1), 0, none⟩ = some v := ba3.cell 0
            have fa3 := ba3.frozen 0
            have cn3 : w2.cell? ⟨(Bn + 1), 0, none⟩ = some (.int .i64 ((pre.length : Nat) : Int)) := bn3.cell 0
            have fn3 := bn3.frozen 0
            have BN4 := Lib.hid (bn3.far (p := ⟨(Ba + 1), 0, none⟩) HNE.out (.slice (some ⟨g', 0, none⟩) (pre.length + 1) cap'))
            have cn4 := BN4.out.cell 0
            have fn4 := BN4.out.frozen 0
            clear ba3 bn3
            refine hK.out _ _ ⟨fun _ => ca3, fun _ => cn3, trivial⟩ (fun hHeld => ?_)
            clear hK K
            try simp only [List.getElem_toArray, List.getElem_cons_succ, List.getElem_cons_zero, Act.put, List.setIfInBounds_toArray, List.set_cons_zero, List.set_cons_succ]
            refine wpAnyE_ready (rs := [6]) (by kernel_rfl) (by simp) (AllE.cons rfl (fun K hK => ?_) AllE.nil)
            clear hHeld
            go_simp
            refine hK.out _ _ ⟨(fun e => absurd e (Bool.eq_false_iff.1 (by kernel_rfl))), fun _ => (by exact cn4), trivial⟩ (fun hHeld => ?_)
            clear hK K
            try simp only [List.getElem_toArray, List.getElem_cons_succ, List.getElem_cons_zero, Act.put, List.setIfInBounds_toArray, List.set_cons_zero, List.set_cons_succ]
            refine wpAnyE_ready (rs := [7]) (by kernel_rfl) (by simp) (AllE.cons rfl (fun K hK => ?_) AllE.nil)
            clear hHeld
            go_simp
            refine hK.out _ _ ⟨(fun e => absurd e (Bool.eq_false_iff.1 (by kernel_rfl))), (fun e => absurd e (Bool.eq_false_iff.1 (by kernel_rfl))), trivial⟩ (fun hHeld => ?_)
            clear hK K
            try simp only [List.getElem_toArray, List.getElem_cons_succ, List.getElem_cons_zero, Act.put, List.setIfInBounds_toArray, List.set_cons_zero, List.set_cons_succ]
            refine wpAnyE_done (by kernel_rfl) (only_normal ?_) _

            have HP := Lib.hid (Lw.push HBX.out HROW.out HCN.out HTW.out rfl (.cells #[.int .i64 x] 2) H1.out (by rw [HWE.out]; exact H2.out) (IntKind.i64.wrap (((pre.length : Nat) : Int) + 1)))
            gi_wp2
            obtain ⟨h5, h6⟩ := HP.out
            have e : IntKind.i64.wrap (((pre.length : Nat) : Int) + 1) = ((pre.length + 1 : Nat) : Int) := by rw [IntWalk.i64_in _ (by omega)]; push_cast; rfl
            refine ⟨h6.from _, fun b hb => ?_, ?_, ?_⟩
            · refine (h5.tw.block b ?_ ?_ ?_).trans (HTW.out.block b ?_ ?_ ?_).symm <;> (simp at hb; omega)
            · rw [e] at h5 ⊢
              simpa using h5
            · simp only [List.length_append, List.length_singleton]; push_cast; omega
        case rest2 =>
          intro D2 W5 hD2 hA2 hKD2
          have HMN := Lib.hid (show min (k : Int) (M : Int) = (n : Int) by have := HN.out; omega)
          have HMK := Lib.hid (show max (min (n : Int) st) 0 = (m : Int) by have := HM2.out; omega)
          have hmn : m ≤ n := by have := HM2.out; omega
          have hnk : n ≤ k := by have := HN.out; omega
          have htl : (ys.take m).length = m := by rw [List.length_take, hyl]; omega
          have htr : (ys.reverse.take m).length = m := by rw [List.length_take, List.length_reverse, hyl]; omega
          obtain ⟨va, hba, hra⟩ := HA.out.box
          obtain ⟨vb, hbb, hrb⟩ := hA2.box
          rw [htl] at hra
          rw [htr] at hrb
          have htB := hA2.tw
          have hk5 : ∀ b, b < W4.heap.size → b ≠ Ba + 1 → b ≠ Bn + 1 → W5.heap[b]? = W4.heap[b]? := fun b h1 h2 h3 => htB.block b h1 h2 h3
          have hba5 : Blk W5 Ba 22 #[va] := (hk5 _ (by have := hba.lt; omega) (by omega) (by omega)).trans (hba.below hb4 hba.lt)
          have hra5 : W5.ownsRow W0.heap.size 2 1 va m (vis (ys.take m)) := row_tw (hW4 ▸ row_up hra _ : W4.ownsRow W0.heap.size 2 1 va m (vis (ys.take m))) htB (by omega) (by omega)
          obtain ⟨Aa, capa, ga, rfl, hca⟩ := row_cell hra5 htl
          obtain ⟨Ab, capb, gb, rfl, hcb⟩ := row_cell hrb htr
          have cA : W5.cell? ⟨Ba, 0, none⟩ = some (.slice Aa m capa) := hba5.cell 0
          have cB : W5.cell? ⟨Ba + 1, 0, none⟩ = some (.slice Ab m capb) := hbb.cell 0
          have cst : W5.cell? ⟨w.heap.size, 0, none⟩ = some (.int .i64 st) := (show Blk W5 w.heap.size 3 #[.int .i64 st] from (hk5 _ bS4.lt (by omega) (by omega)).trans bS4).cell 0
          have HR5 := Lib.hid (hR4.keep (hk5 R (by omega) (by omega) (by omega)) (hk5 g (by omega) (by omega) (by omega)))
          have HK5 := Lib.hid ((hk5 D hDlt (by omega) (by omega)).trans hK4)
          have HK5b := Lib.hid hKD2
          have HD52 := Lib.hid hD2
          have HBW := Lib.hid (show Below w.heap.size w W5 by
            refine H1.out.trans ((HU.out.mono (by have := HS1.out; omega)).trans ((HB0.out.mono (by omega)).trans (Below.trans (htA.below (by omega) (by omega) (by omega)) ((hb4.mono (by omega)).trans (htB.below (by omega) (by omega) (by omega))))))
            )
          have HIW := Lib.hid (HI.out.below HBW.out)
          have HCA := Lib.hid hca
          have HCB := Lib.hid hcb
          have hmI : (m : Int) ≤ 80 := by omega
          have hmc : m ≤ capa ∨ True := .inr trivial
          clear hca hcb hba5 hra5 hba hbb hra hrb htB hA2 hKD2 hD2 hk5 hmc
          go_wp2_with (first
            | (refine wpList_max rfl (.tmp 73) (.const (.int .i64 1)) rfl rfl rfl ?hK1; rw [HMX.out])
            | (refine wpList_min rfl (.tmp 72) (.tmp 74) rfl rfl rfl ?hK2; rw [HMN.out])
            | (refine wpList_min rfl (.tmp 76) (.tmp 77) rfl rfl rfl ?hK3)
            | (refine wpList_max rfl (.tmp 78) (.const (.int .i64 0)) rfl rfl rfl ?hK4; rw [HMK.out])
            | fail)
          go_loopw [18] (fun i wr => ∃ q nq : Nat, q ≤ m ∧ i = .int .i64 (q : Int) ∧ wr = W5.drewN nq) (fun i _ => m - (intOf i).toNat)
          case atStart => exact ⟨0, 0, Nat.zero_le _, rfl, rfl⟩
          case round =>
            obtain ⟨q, nq0, hq, rfl, rfl⟩ := hrel
            by_cases hqm : q < m
            · obtain ⟨y, hy⟩ : ∃ y, xs[k - n + q]? = some y := ⟨xs[k - n + q]'(by rw [HI.out.hlen]; omega), List.getElem?_eq_getElem _⟩
              obtain ⟨z, hz⟩ : ∃ z, xs[k - 1 - q]? = some z := ⟨xs[k - 1 - q]'(by rw [HI.out.hlen]; omega), List.getElem?_eq_getElem _⟩
              have hya : (ys.take m)[q]? = some y := by rw [List.getElem?_take, if_pos hqm, ← HYS.out, List.getElem?_drop]; exact hy
              have hzb : (ys.reverse.take m)[q]? = some z := by
                rw [List.getElem?_take, if_pos hqm, List.getElem?_reverse (by rw [hyl]; omega), ← HYS.out, List.getElem?_drop, List.length_drop, HI.out.hlen, show k - n + (k - (k - n) - 1 - q) = k - 1 - q by omega]
                exact hz
              obtain ⟨rfl, _, e1⟩ := HCA.out q y hya
              obtain ⟨rfl, _, e2⟩ := HCB.out q z hzb
              obtain ⟨rfl, _⟩ := HI.out.addr (by omega)
              have e3 := HIW.out.cell _ _ hy
              have e4 := HIW.out.cell _ _ hz
              obtain ⟨u1, hu1⟩ : ∃ u, k - n = u := ⟨_, rfl⟩
              obtain ⟨u2, hu2⟩ : ∃ u, u1 + q = u := ⟨_, rfl⟩
              obtain ⟨u3, hu3⟩ : ∃ u, k - 1 = u := ⟨_, rfl⟩
              obtain ⟨u4, hu4⟩ : ∃ u, u3 - q = u := ⟨_, rfl⟩
              rw [hu1, hu2] at e3
              rw [hu3, hu4] at e4
              have i1 : IntKind.i64.wrap ((k : Int) - (n : Int)) = (u1 : Int) := by rw [show (k : Int) - (n : Int) = (u1 : Int) by omega]; exact IntWalk.i64_in _ (by omega)
              have i2 : IntKind.i64.wrap ((u1 : Int) + (q : Int)) = (u2 : Int) := by rw [show (u1 : Int) + (q : Int) = (u2 : Int) by omega]; exact IntWalk.i64_in _ (by omega)
              have i3 : IntKind.i64.wrap ((k : Int) - 1) = (u3 : Int) := by rw [show (k : Int) - 1 = (u3 : Int) by omega]; exact IntWalk.i64_in _ (by omega)
              have i4 : IntKind.i64.wrap ((u3 : Int) - (q : Int)) = (u4 : Int) := by rw [show (u3 : Int) - (q : Int) = (u4 : Int) by omega]; exact IntWalk.i64_in _ (by omega)
              have j2 : (u2 : Int) < (k : Int) := by omega
              have j4 : (u4 : Int) < (k : Int) := by omega
              have jq : (q : Int) < (m : Int) := by omega
              clear hu1 hu2 hu3 hu4 hya hzb hy hz hqm
              go_wp2
              go_quiet (fail)
              clear i1 i2 i3 i4
              go_wp2
              go_roundw
              case rel => exact ⟨q + 1, _, by omega, by go_num, rfl⟩
              case measure => simp [intOf]; omega
            · obtain rfl : m = q := by omega
              clear hqm
              go_wp2_with fail
              refine (len_same (w := W5.drewN nq0) (HR5.out.keep rfl rfl).rng HR5.out.len).mono ?_
              rintro _ wz ⟨rfl, hw0⟩
              replace hw0 := hw0.symm
              subst hw0
              go_wp2
              have k2 : (W5.drewN nq0).heap[D2]? = some (.deferred (some [])) := HK5b.out
              have k1 : ((W5.drewN nq0).putObj D2 (.deferred none)).heap[D]? = some (.deferred (some [])) := (World.putObj_heap_other (by have := HD52.out; omega)).trans HK5.out
              refine ⟨by simp, .inl ⟨_, _, rfl, run_takeDeferred k2, by simp, .inl ⟨_, _, rfl, run_takeDeferred k1, ?_⟩⟩⟩
              have hbz : Below w.heap.size w (W5.drewN nq0) := below_drewN HBW.out nq0
              exact ⟨_, results_tmp rfl _ _ _, rfl, (hbz.trans (belowK_b (w := w) (Nat.le_refl _) _ D2 _ _ (by have := HD52.out; omega) k2 rfl rfl)).trans (belowK_b (w := w) (Nat.le_refl _) _ D _ _ (by omega) k1 rfl rfl)⟩
theorem walks_big (w : World) (a0 : Int) (A : Option Addr) (len cap : Nat) (a2 : Int) (hl : 80 < len) :
    Calls Try.prog 6 #[.int .i64 a0, .slice A len cap, .int .i64 a2] w fun e w' => e = .returned (.bool true) ∧ Below w.heap.size w w' := by
  have CF := Lib.hid first_any
  have hlI : (len : Int) > 80 := by omega
  refine calls_marks Try.func6 rfl ?_
  simp only [Try.ntmps6, List.size_toArray, List.length_cons, List.length_nil, Nat.reduceAdd, Nat.reduceSub, Array.replicate_succ, Array.replicate_zero, List.push_toArray, List.append_toArray, List.nil_append, List.cons_append]
  go_wp2_with fail
  refine (CF.out _).mono ?_
  rintro _ w1 ⟨rfl, h1⟩
  have H1 := Lib.hid h1
  clear h1
  go_wp2_with fail
  refine (CF.out _).mono ?_
  rintro _ w2 ⟨rfl, h1⟩
  have H2 := Lib.hid h1
  clear h1
  go_wp2
  have hb := ((Below.refl w.heap.size w).alloc (Nat.le_refl _) (.cells #[.int .i64 a2] 3)).trans ((H1.out.mono (by simp)).trans (H2.out.mono (by have := H1.out.size; simp at this; omega)))
  exact ⟨_, results_tmp rfl _ _ _, rfl, hb⟩
theorem ringWalks_walk (w : World) (a0 : Int) (w0 : (Lit.int .i64 a0).wf = true) (A1 : Option Addr) (len1 cap1 : Nat) (S1 : Sh.ok w (Sh.slice 1 (Sh.int .i64)) [.slice A1 len1 cap1]) (a2 : Int) (w2 : (Lit.int .i64 a2).wf = true) :
    Calls Try.prog 6 #[.int .i64 a0, .slice A1 len1 cap1, .int .i64 a2] w fun e w' => e = .returned (.bool true) ∧ Below w.heap.size w w' := by
  obtain ⟨hc, b, off, xs, h⟩ := ints_open S1
  by_cases hl : 80 < len1
  · exact walks_big w a0 A1 len1 cap1 a2 hl
  · exact walks_go w a0 (max a0 1).toNat (by omega) A1 len1 cap1 b off xs h hc (by omega) a2
end Go.Proofs.Ytglifomkhcikdaa
