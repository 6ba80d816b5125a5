/- OmapWalks: its walk. -/
import Derived.Test.YtmapfbnfcbkjpaaWb
namespace Go.Proofs.Ytmapfbnfcbkjpaa
open Go.RowKit
open Go.Lib
open Go.Shelf
attribute [local go_sem] Oper.semAt_some
set_option linter.unusedVariables false
set_option linter.unusedSimpArgs false
set_option maxRecDepth 100000
set_option maxHeartbeats 16000000 in
theorem owalks_in (w : World) (A : Option Addr) (len cap b off : Nat) (xs : Nat → A3) (hl : len ≤ cap) (hm : cap ≤ maxLen) (hA : Acts w A len b off xs) (px : ByteArray) (hpx : px.size ≤ maxLen) (st : Int) :
    Calls Try.prog 6 #[.slice A len cap, .string px, .int .i64 st] w fun e w' => e = .returned (.bool true) ∧ Below w.heap.size w w' := by
  have HA := Lib.hid hA
  have HM := Lib.hid hm
  have HLC := Lib.hid hl
  have HPX := Lib.hid hpx
  have H0 := Lib.hid ((Below.refl w.heap.size w).alloc (Nat.le_refl _) (.cells #[.int .i64 st] 3))
  have HST := Lib.hid (Blk.new w 3 #[.int .i64 st])
  obtain ⟨wA, hwA⟩ : ∃ wA, w.alloc (.cells #[.int .i64 st] 3) = wA := ⟨_, rfl⟩
  have HSA := Lib.hid (show wA.heap.size = w.heap.size + 1 by rw [← hwA]; simp)
  rw [hwA] at H0 HST
  clear hA hm hl hpx
  refine calls_marks Try.func6 rfl ?_
  simp only [Try.ntmps6, List.size_toArray, List.length_cons, List.length_nil, Nat.reduceAdd, Nat.reduceSub, Array.replicate_succ, Array.replicate_zero, List.push_toArray, List.append_toArray, List.nil_append, List.cons_append]
  go_wp2_with fail
  try rw [hwA]
  clear hwA
  refine (first_any _).mono ?_
  rintro _ w1 ⟨rfl, h1⟩
  have HST1 := Lib.hid ((h1.block w.heap.size HST.out.lt).trans HST.out)
  have H1 := Lib.hid (H0.out.trans (h1.mono (by rw [HSA.out]; omega)))
  have HS1 := Lib.hid (show w.heap.size < w1.heap.size by have := h1.size; rw [HSA.out] at this; omega)
  have HA1 := Lib.hid (HA.out.keep H1.out)
  clear h1
  go_wp2_with fail
  refine (light_any w1 A len cap b off xs HLC.out HM.out HA1.out).mono ?_
  rintro _ wz ⟨⟨bb, rfl, hlt⟩, hw0⟩
  replace hw0 := hw0.symm
  subst hw0
  have HLT := Lib.hid hlt
  clear hlt
  cases bb with
  | false =>
    go_wp2_with fail
    refine (first_any _).mono ?_
    rintro _ w2 ⟨rfl, h1⟩
    have H2 := Lib.hid h1
    clear h1
    go_wp2
    exact ⟨_, results_tmp rfl _ _ _, rfl, H1.out.trans (H2.out.mono (by have := HS1.out; omega))⟩
  | true =>
    by_cases hp40 : px.size > 40
    · have hpI : (px.size : Int) > 40 := by omega
      go_wp2_with fail
      refine (first_any _).mono ?_
      rintro _ w2 ⟨rfl, h1⟩
      have H2 := Lib.hid h1
      clear h1
      go_wp2
      exact ⟨_, results_tmp rfl _ _ _, rfl, H1.out.trans (H2.out.mono (by have := HS1.out; omega))⟩
    · have hpI : ¬ (px.size : Int) > 40 := by omega
      obtain ⟨h80, h40⟩ := HLT.out rfl
      have H40 := Lib.hid h40
      clear h40 HLT
      go_wp2_with fail
      refine (OI.om_new _).mono ?_
      rintro _ w2 ⟨g, rfl, h1, hb, hg⟩
      have HP0 := Lib.hid (show Pm w1 w2 g 0 [] from ⟨h1, hb, hg, Nat.le_refl _, fun q hq => (by cases hq)⟩)
      clear h1 hb
      go_wp2_with fail
      go_loopw [8] (fun i wr => ∃ (k : Nat) (L : LI), k ≤ len ∧ i = .int .i64 (k : Int) ∧ Pm w1 wr g k L) (fun i _ => len - (intOf i).toNat)
      case atStart => exact ⟨0, [], Nat.zero_le _, rfl, HP0.out⟩
      case round =>
        obtain ⟨k, L, hk, rfl, hc⟩ := hrel
        have HC := Lib.hid hc
        by_cases hlt : k < len
        · obtain ⟨c0, c1, c2, _, _⟩ := (HA1.out.keep (hc.bel)).2 k hlt
          obtain rfl := (HA1.out.1 (by omega)).1
          have HX := Lib.hid (fun w' (h : Below w1.heap.size w1 w') => (HA1.out.keep h).2 k hlt)
          have HK40 := Lib.hid (H40.out k hlt)
          obtain ⟨o, ho⟩ : ∃ o, (getL (xs k).2.1 L).isSome = o := ⟨_, rfl⟩
          have HPC := Lib.hid (OI.om_put (hc.om.below ((Below.refl _ wr).drew)) (by have := hc.len; omega) (xs k).2.1 (xs k).2.2 o ho)
          have HDC := Lib.hid (OI.om_del hc.om (by have := hc.len; omega) (xs k).2.1 o ho)
          have HPP := Lib.hid (fun w' (h1 : OI.Om w' g (insL (xs k).2.1 (xs k).2.2 L)) (h2 : OI.Ko wr.drew w' g) => hc.put HK40.out h1 ((OI.Ko.of ((Below.refl _ wr).drew)).trans h2))
          have HDD := Lib.hid (fun w' (h1 : OI.Om w' g (delL (xs k).2.1 L)) (h2 : OI.Ko wr w' g) => hc.del h1 h2)
          obtain ⟨L2, hL2⟩ : ∃ L2, insL (xs k).2.1 (xs k).2.2 L = L2 := ⟨_, rfl⟩
          obtain ⟨L3, hL3⟩ : ∃ L3, delL (xs k).2.1 L = L3 := ⟨_, rfl⟩
          rw [hL2] at HPC HPP
          rw [hL3] at HDC HDD
          obtain ⟨op, hop⟩ : ∃ op, (xs k).1 = op := ⟨_, rfl⟩
          obtain ⟨x, hx⟩ : ∃ x, (xs k).2.1 = x := ⟨_, rfl⟩
          obtain ⟨v, hv⟩ : ∃ v, (xs k).2.2 = v := ⟨_, rfl⟩
          rw [hop] at c0 HX
          rw [hx] at c1 HPC HDC HX
          rw [hv] at c2 HPC HX
          have hkI : (k : Int) < (len : Int) := by omega
          have c1d : wr.drew.cell? ⟨b, off + k * 3 + 1, none⟩ = some (.string x) := c1
          have c2d : wr.drew.cell? ⟨b, off + k * 3 + 2, none⟩ = some (.int .i64 v) := c2
          clear hc ho hL2 hL3 hop hx hv
          by_cases hop1 : op = 1
          · subst hop1
            go_wp2_with fail
            refine HDC.out.mono ?_
            rintro _ w3 ⟨rfl, h1, h2⟩
            have HP3 := Lib.hid (HDD.out w3 h1 h2)
            clear h1 h2
            go_wp2_with fail
            go_roundw
            case rel => exact ⟨k + 1, _, by omega, by go_num, HP3.out⟩
            case measure => simp [intOf]; omega
          · have hopb : (op == 1) = false := by simpa using hop1
            go_wp2_with fail
            go_region_held3 (fun w' => w'.cell? ⟨b, off + k * 3 + 1, none⟩ = some (.string x) ∧ w'.cell? ⟨b, off + k * 3 + 2, none⟩ = some (.int .i64 v)) (first | exact ⟨c1d, c2d⟩ | exact e1) (first
              | (go_at_call 11
                 (with_reducible refine (HPC.out).mono ?_)
                 rintro _ w3 ⟨rfl, h1, h2⟩
                 have HP3 := Lib.hid (HPP.out w3 h1 h2)
                 have e1 := HX.out _ HP3.out.bel
                 have e1 := (⟨e1.2.1, e1.2.2.1⟩ : _ ∧ _)
                 clear h1 h2)
              | fail)
            all_goals (
              go_wp2_with fail
              exact ⟨⟨k + 1, _, by omega, by go_num, HP3.out⟩, by simp [intOf]; omega⟩)
        · obtain rfl : k = len := by omega
          clear hlt hc
          go_wp2_with (first
            | (go_at_call 25
               refine (OI.all_fn g _).mono ?_
               rintro _ wz ⟨rfl, hw0⟩)
            | fail)
          --MARK
          obtain ⟨W0, hW0⟩ : ∃ W0, ((((wr.alloc (.cells #[.slice none 0 0] 27)).alloc (.cells #[.slice none 0 0] 27)).alloc (.cells #[.slice none 0 0] 28)).alloc (.cells #[.pointer (some ⟨g, 0, none⟩)] 25)).alloc (.cells #[.string .empty] 9) = W0 := ⟨_, rfl⟩
          have hsW : W0.heap.size = wr.heap.size + 5 := by rw [← hW0]; simp
          have HB0 := Lib.hid (show Below wr.heap.size wr W0 from hW0 ▸ (((((Below.refl _ wr).alloc (Nat.le_refl _) _).alloc (by simp) _).alloc (by simp; omega) _).alloc (by simp; omega) _).alloc (by simp; omega) _)
          have bA : Blk W0 wr.heap.size 27 #[.slice none 0 0] := hW0 ▸ (((((Blk.new wr 27 #[.slice none 0 0]).alloc _).alloc _).alloc _).alloc _)
          have bS : Blk W0 (wr.heap.size + 1) 27 #[.slice none 0 0] := by
            have := ((((Blk.new (wr.alloc (.cells #[.slice none 0 0] 27)) 27 #[.slice none 0 0]).alloc (.cells #[.slice none 0 0] 28)).alloc (.cells #[.pointer (some ⟨g, 0, none⟩)] 25)).alloc (.cells #[.string .empty] 9))
            rw [World.size_alloc] at this
            rw [← hW0]; exact this
          have bV : Blk W0 (wr.heap.size + 1 + 1) 28 #[.slice none 0 0] := by
            have := (((Blk.new ((wr.alloc (.cells #[.slice none 0 0] 27)).alloc (.cells #[.slice none 0 0] 27)) 28 #[.slice none 0 0]).alloc (.cells #[.pointer (some ⟨g, 0, none⟩)] 25)).alloc (.cells #[.string .empty] 9))
            rw [World.size_alloc, World.size_alloc] at this
            rw [← hW0]; exact this
          have bM : Blk W0 (wr.heap.size + 1 + 1 + 1) 25 #[.pointer (some ⟨g, 0, none⟩)] := by
            have := ((Blk.new (((wr.alloc (.cells #[.slice none 0 0] 27)).alloc (.cells #[.slice none 0 0] 27)).alloc (.cells #[.slice none 0 0] 28)) 25 #[.pointer (some ⟨g, 0, none⟩)]).alloc (.cells #[.string .empty] 9))
            rw [World.size_alloc, World.size_alloc, World.size_alloc] at this
            rw [← hW0]; exact this
          have bX : Blk W0 (wr.heap.size + 1 + 1 + 1 + 1) 9 #[.string .empty] := by
            have := Blk.new ((((wr.alloc (.cells #[.slice none 0 0] 27)).alloc (.cells #[.slice none 0 0] 27)).alloc (.cells #[.slice none 0 0] 28)).alloc (.cells #[.pointer (some ⟨g, 0, none⟩)] 25)) 9 #[.string .empty]
            rw [World.size_alloc, World.size_alloc, World.size_alloc, World.size_alloc] at this
            rw [← hW0]; exact this
          rw [hW0] at hw0 ⊢
          have hOW := HC.out.om.below HB0.out
          have hglt : g < wr.heap.size := HC.out.om.lt
          have hks : ∀ q ∈ L, q.1.size ≤ 1000000 := fun q hq => Nat.le_trans (HC.out.key q hq) (by decide)
          have hbel := HC.out.bel
          have hwlt : w.heap.size < wr.heap.size := by have := HS1.out; have := hbel.size; omega
          have hstW : Blk W0 w.heap.size 3 #[.int .i64 st] := (HB0.out.block _ hwlt).trans ((hbel.block _ HS1.out).trans HST1.out)
          obtain ⟨N, hN⟩ : ∃ N, L.length = N := ⟨_, rfl⟩
          have hN80 : N ≤ 80 := by have := HC.out.len; omega
          have hst := om_stops 5 (wr.heap.size + 1 + 1 + 1) (wr.heap.size + 1 + 1 + 1 + 1) g L L .empty (by decide) W0 bM bX hOW hks (filt_empty L)
          rw [hN] at hst
          obtain ⟨Ba, hBa⟩ : ∃ Ba, wr.heap.size = Ba := ⟨_, rfl⟩
          obtain ⟨Bv, hBv⟩ : ∃ Bv, Ba + 1 + 1 = Bv := ⟨_, rfl⟩
          rw [hBa] at bA bS bV bM bX hst hglt hwlt hsW ⊢
          rw [hBv] at bV bM bX hst ⊢
          have HN := Lib.hid hN
          clear hw0
          refine range_plain (gf := 33) (lb := #[.pointer (some ⟨Bv + 1, 0, none⟩), .pointer (some ⟨Bv + 1 + 1, 0, none⟩)]) rfl (enters_of Try.func33 (by kernel_rfl) rfl) hst (fun h k => h.trans k) (fun W l o o' hl h1 h2 h3 => OI.KeepN.put (w := W0) W l o o' hl h1 h2 h3) (fun _ => rfl)
            (fun pre W => OI.KeepN W0 W ∧ ∃ a v, Wv W W0 W Ba Bv a v a v pre.length pre.length (keysL pre) (valsL pre))
            (fun _ _ _ => False)
            (fun s A B row hs hg hr => by
              obtain ⟨hk, a, v, h⟩ := hs
              exact ⟨hk.trans (keepN_own hg (fun r e => (hr r e).2)), a, v, h.own hg hr⟩)
            (fun _ _ _ _ _ hs _ _ => hs)
            ⟨OI.KeepN.refl _, _, _, bA, bV, World.ownsRow_nil _ _ _ _, World.ownsRow_nil _ _ _ _, Tw.refl _ _ _, OI.KeepN.refl _, KeepsOthers.refl _⟩
            2 (fun W => OI.KeepN W0 W ∧ ∃ a v, Wv W W0 W Ba Bv a v a v N N (keysL L) (valsL L))
            (fun xs' W hS hI => ?S1) (fun c pre W hSp hIx => hIx.elim) (fun a w h => by simpa [Exit.inBlock] using h) ?a1 ?assign ?body ?rest
          case assign =>
            intro l x W K hK
            simp only [OI.enI]
            gi_wp2
            exact hK
          case S1 =>
            subst hS
            rw [HN.out] at hI
            exact hI
          case body =>
            rintro l pre ⟨x, y⟩ W ⟨hkn, a, v, h⟩ hplt
            have HKN := Lib.hid hkn
            clear hkn
            have HD := Lib.hid (h.here.drew)
            obtain ⟨Wk, hWk⟩ : ∃ Wk, W.drew.alloc (.cells #[.string x] 9) = Wk := ⟨_, rfl⟩
            obtain ⟨Wv1, hWv1⟩ : ∃ Wv1, W.drew.alloc (.cells #[.int .i64 y] 2) = Wv1 := ⟨_, rfl⟩
            obtain ⟨Wkv, hWkv⟩ : ∃ Wkv, Wk.alloc (.cells #[.int .i64 y] 2) = Wkv := ⟨_, rfl⟩
            obtain ⟨Wvk, hWvk⟩ : ∃ Wvk, Wv1.alloc (.cells #[.string x] 9) = Wvk := ⟨_, rfl⟩
            have HK := Lib.hid (show Wv W W0 Wk Ba Bv a v a v pre.length pre.length (keysL pre) (valsL pre) from hWk ▸ HD.out.alloc _)
            have HV := Lib.hid (show Wv W W0 Wv1 Ba Bv a v a v pre.length pre.length (keysL pre) (valsL pre) from hWv1 ▸ HD.out.alloc _)
            have HKV := Lib.hid (show Wv W W0 Wkv Ba Bv a v a v pre.length pre.length (keysL pre) (valsL pre) from hWkv ▸ HK.out.alloc _)
            have HVK := Lib.hid (show Wv W W0 Wvk Ba Bv a v a v pre.length pre.length (keysL pre) (valsL pre) from hWvk ▸ HV.out.alloc _)
            have EK := Lib.hid (show Blk Wk W.heap.size 9 #[.string x] from hWk ▸ Blk.new W.drew 9 _)
            have EV1 := Lib.hid (show Blk Wv1 W.heap.size 2 #[.int .i64 y] from hWv1 ▸ Blk.new W.drew 2 _)
            have EKV := Lib.hid (show Blk Wkv W.heap.size 9 #[.string x] from hWkv ▸ EK.out.alloc _)
            have EVK := Lib.hid (show Blk Wkv Wk.heap.size 2 #[.int .i64 y] from hWkv ▸ Blk.new Wk 2 _)
            have FVK := Lib.hid (show Blk Wvk W.heap.size 2 #[.int .i64 y] from hWvk ▸ EV1.out.alloc _)
            have FKV := Lib.hid (show Blk Wvk Wv1.heap.size 9 #[.string x] from hWvk ▸ Blk.new Wv1 9 _)
            have hp80 : pre.length ≤ 80 := by omega
            clear h
            gi_wp2
            refine wpIn_region_E [([8], fun w' => w'.cell? ⟨Ba, 0, none⟩ = some a), ([9], fun w' => w'.cell? ⟨Bv, 0, none⟩ = some v)] (by kernel_rfl) (by kernel_rfl) ⟨fun _ => HD.out.ba.cell 0, fun _ => HD.out.bv.cell 0, trivial⟩ (fun hHeld => ?_)
            refine wpAnyE_take (i := 1) (v := ?_) rfl (by kernel_rfl) (by kernel_rfl) (by kernel_rfl) (by kernel_rfl) (fun _ _ _ h => h) (Or.inl ⟨by rfl, ?_⟩) hHeld (fun hHeld => ?_)
            rotate_left
            · (intro w hSw; (try dsimp only at hSw); (try simp only [List.getElem_toArray, List.getElem_cons_succ, List.getElem_cons_zero]); go_simp; try with_reducible rfl)
            try simp only [List.getElem_toArray, List.getElem_cons_succ, List.getElem_cons_zero, Act.put, List.setIfInBounds_toArray, List.set_cons_zero, List.set_cons_succ]
            refine wpAnyE_take (i := 5) (v := ?_) rfl (by kernel_rfl) (by kernel_rfl) (by kernel_rfl) (by kernel_rfl) (fun _ _ _ h => h) (Or.inl ⟨by rfl, ?_⟩) hHeld (fun hHeld => ?_)
            rotate_left
            · (intro w hSw; (try dsimp only at hSw); (try simp only [List.getElem_toArray, List.getElem_cons_succ, List.getElem_cons_zero]); go_simp; try with_reducible rfl)
            try simp only [List.getElem_toArray, List.getElem_cons_succ, List.getElem_cons_zero, Act.put, List.setIfInBounds_toArray, List.set_cons_zero, List.set_cons_succ]
            refine wpAnyE_load (i := 0) _ _ (v := ?_) rfl (by kernel_rfl) List.mem_cons_self (by kernel_rfl) (by kernel_rfl) (by kernel_rfl) (by kernel_rfl) (fun _ _ _ h => h) (Or.inl ⟨by rfl, ?_⟩) hHeld (fun hHeld => ?_)
            rotate_left
            · (intro w hSw; (try dsimp only at hSw); (try simp only [List.getElem_toArray, List.getElem_cons_succ, List.getElem_cons_zero]); go_simp; try with_reducible rfl)
            try simp only [List.getElem_toArray, List.getElem_cons_succ, List.getElem_cons_zero, Act.put, List.setIfInBounds_toArray, List.set_cons_zero, List.set_cons_succ]
            refine wpAnyE_load (i := 4) _ _ (v := ?_) rfl (by kernel_rfl) (List.mem_cons_of_mem _ List.mem_cons_self) (by kernel_rfl) (by kernel_rfl) (by kernel_rfl) (by kernel_rfl) (fun _ _ _ h => h) (Or.inl ⟨by rfl, ?_⟩) hHeld (fun hHeld => ?_)
            rotate_left
            · (intro w hSw; (try dsimp only at hSw); (try simp only [List.getElem_toArray, List.getElem_cons_succ, List.getElem_cons_zero]); go_simp; try with_reducible rfl)
            try simp only [List.getElem_toArray, List.getElem_cons_succ, List.getElem_cons_zero, Act.put, List.setIfInBounds_toArray, List.set_cons_zero, List.set_cons_succ]
            refine wpAnyE_ready (rs := [2, 6]) (by kernel_rfl) (by simp) (AllE.cons rfl (fun K hK => ?_) (AllE.cons rfl (fun K hK => ?_) AllE.nil))
            · clear hHeld
              go_simp
              refine hK.out _ _ ⟨fun _ => HK.out.ba.cell 0, fun _ => HK.out.bv.cell 0, trivial⟩ (fun hHeld => ?_)
              clear hK K
              try simp only [List.getElem_toArray, List.getElem_cons_succ, List.getElem_cons_zero, Act.put, List.setIfInBounds_toArray, List.set_cons_zero, List.set_cons_succ]
              refine wpAnyE_ready (rs := [3, 6]) (by kernel_rfl) (by simp) (AllE.cons rfl (fun K hK => ?_) (AllE.cons rfl (fun K hK => ?_) AllE.nil))
              · clear hHeld
                refine step_pushA (v := a) (n := pre.length) (l := keysL pre) rfl (.tmp 68) (.tmp 70) rfl rfl HK.out.ra x W.heap.size rfl EK.out (by omega) HK.out.tw.size ?_
                intro g1 cap1 w2 h1 h2
                have HX := Lib.hid (HK.out.pushA h1 h2)
                clear h1 h2
                refine hK.out _ _ ⟨fun _ => HX.out.ba.cell 0, fun _ => HX.out.bv.cell 0, trivial⟩ (fun hHeld => ?_)
                clear hK K
                try simp only [List.getElem_toArray, List.getElem_cons_succ, List.getElem_cons_zero, Act.put, List.setIfInBounds_toArray, List.set_cons_zero, List.set_cons_succ]
                have EV2 := Lib.hid (Blk.new w2 2 #[.int .i64 y])
                have HX3 := Lib.hid (HX.out.alloc (.cells #[.int .i64 y] 2))
                refine wpAnyE_ready (rs := [6]) (by kernel_rfl) (by simp) (AllE.cons rfl (fun K hK => ?_) AllE.nil)
                clear hHeld
                go_simp
                refine hK.out _ _ ⟨fun _ => HX3.out.ba.cell 0, fun _ => HX3.out.bv.cell 0, trivial⟩ (fun hHeld => ?_)
                clear hK K
                try simp only [List.getElem_toArray, List.getElem_cons_succ, List.getElem_cons_zero, Act.put, List.setIfInBounds_toArray, List.set_cons_zero, List.set_cons_succ]
                refine wpAnyE_ready (rs := [7]) (by kernel_rfl) (by simp) (AllE.cons rfl (fun K hK => ?_) AllE.nil)
                clear hHeld
                refine step_pushV (v := v) (n := pre.length) (l := valsL pre) rfl (.tmp 72) (.tmp 74) rfl rfl HX3.out.rv y w2.heap.size rfl EV2.out (by omega) HX3.out.tw.size ?_
                intro g2 cap2 w4 h1 h2
                have HY := Lib.hid (HX3.out.pushV h1 h2)
                clear h1 h2
                refine hK.out _ _ ⟨fun _ => HY.out.ba.cell 0, fun _ => HY.out.bv.cell 0, trivial⟩ (fun hHeld => ?_)
                clear hK K
                try simp only [List.getElem_toArray, List.getElem_cons_succ, List.getElem_cons_zero, Act.put, List.setIfInBounds_toArray, List.set_cons_zero, List.set_cons_succ]
                have HS1 := Lib.hid HY.out.setA
                have HS2 := Lib.hid HS1.out.setV
                have e8 := HY.out.ba.cell 0
                have fe8 := HY.out.ba.frozen 0
                have e9 := HS1.out.bv.cell 0
                have fe9 := HS1.out.bv.frozen 0
                simp only [List.getElem?_toArray, List.getElem?_cons_zero] at e8 e9
                refine wpAnyE_ready (rs := [8]) (by kernel_rfl) (by simp) (AllE.cons rfl (fun K hK => ?_) AllE.nil)
                clear hHeld
                go_simp
                refine hK.out _ _ ⟨(fun e => absurd e (Bool.eq_false_iff.1 (by kernel_rfl))), fun _ => HS1.out.bv.cell 0, trivial⟩ (fun hHeld => ?_)
                clear hK K
                try simp only [List.getElem_toArray, List.getElem_cons_succ, List.getElem_cons_zero, Act.put, List.setIfInBounds_toArray, List.set_cons_zero, List.set_cons_succ]
                refine wpAnyE_ready (rs := [9]) (by kernel_rfl) (by simp) (AllE.cons rfl (fun K hK => ?_) AllE.nil)
                clear hHeld
                go_simp
                refine hK.out _ _ ⟨(fun e => absurd e (Bool.eq_false_iff.1 (by kernel_rfl))), (fun e => absurd e (Bool.eq_false_iff.1 (by kernel_rfl))), trivial⟩ (fun hHeld => ?_)
                clear hK K
                try simp only [List.getElem_toArray, List.getElem_cons_succ, List.getElem_cons_zero, Act.put, List.setIfInBounds_toArray, List.set_cons_zero, List.set_cons_succ]
                refine wpAnyE_done (by kernel_rfl) (only_normal ?_) _
                gi_wp2
                exact ⟨HS2.out.ko.from _, HS2.out.kn, HKN.out.trans HS2.out.kn, _, _, by simpa [keysL, valsL] using HS2.out.here⟩
              · clear hHeld
                go_simp
                refine hK.out _ _ ⟨fun _ => HKV.out.ba.cell 0, fun _ => HKV.out.bv.cell 0, trivial⟩ (fun hHeld => ?_)
                clear hK K
                try simp only [List.getElem_toArray, List.getElem_cons_succ, List.getElem_cons_zero, Act.put, List.setIfInBounds_toArray, List.set_cons_zero, List.set_cons_succ]
                refine wpAnyE_ready (rs := [3]) (by kernel_rfl) (by simp) (AllE.cons rfl (fun K hK => ?_) AllE.nil)
                clear hHeld
                refine step_pushA (v := a) (n := pre.length) (l := keysL pre) rfl (.tmp 68) (.tmp 70) rfl rfl HKV.out.ra x W.heap.size rfl EKV.out (by omega) HKV.out.tw.size ?_
                intro g1 cap1 w2 h1 h2
                have HX := Lib.hid (HKV.out.pushA h1 h2)
                have EV2 := Lib.hid (blk_row EVK.out HKV.out.ra (by decide) h2)
                clear h1 h2
                refine hK.out _ _ ⟨fun _ => HX.out.ba.cell 0, fun _ => HX.out.bv.cell 0, trivial⟩ (fun hHeld => ?_)
                clear hK K
                try simp only [List.getElem_toArray, List.getElem_cons_succ, List.getElem_cons_zero, Act.put, List.setIfInBounds_toArray, List.set_cons_zero, List.set_cons_succ]
                refine wpAnyE_ready (rs := [7]) (by kernel_rfl) (by simp) (AllE.cons rfl (fun K hK => ?_) AllE.nil)
                clear hHeld
                refine step_pushV (v := v) (n := pre.length) (l := valsL pre) rfl (.tmp 72) (.tmp 74) rfl rfl HX.out.rv y Wk.heap.size rfl EV2.out (by omega) HX.out.tw.size ?_
                intro g2 cap2 w4 h1 h2
                have HY := Lib.hid (HX.out.pushV h1 h2)
                clear h1 h2
                refine hK.out _ _ ⟨fun _ => HY.out.ba.cell 0, fun _ => HY.out.bv.cell 0, trivial⟩ (fun hHeld => ?_)
                clear hK K
                try simp only [List.getElem_toArray, List.getElem_cons_succ, List.getElem_cons_zero, Act.put, List.setIfInBounds_toArray, List.set_cons_zero, List.set_cons_succ]
                have HS1 := Lib.hid HY.out.setA
                have HS2 := Lib.hid HS1.out.setV
                have e8 := HY.out.ba.cell 0
                have fe8 := HY.out.ba.frozen 0
                have e9 := HS1.out.bv.cell 0
                have fe9 := HS1.out.bv.frozen 0
                simp only [List.getElem?_toArray, List.getElem?_cons_zero] at e8 e9
                refine wpAnyE_ready (rs := [8]) (by kernel_rfl) (by simp) (AllE.cons rfl (fun K hK => ?_) AllE.nil)
                clear hHeld
                go_simp
                refine hK.out _ _ ⟨(fun e => absurd e (Bool.eq_false_iff.1 (by kernel_rfl))), fun _ => HS1.out.bv.cell 0, trivial⟩ (fun hHeld => ?_)
                clear hK K
                try simp only [List.getElem_toArray, List.getElem_cons_succ, List.getElem_cons_zero, Act.put, List.setIfInBounds_toArray, List.set_cons_zero, List.set_cons_succ]
                refine wpAnyE_ready (rs := [9]) (by kernel_rfl) (by simp) (AllE.cons rfl (fun K hK => ?_) AllE.nil)
                clear hHeld
                go_simp
                refine hK.out _ _ ⟨(fun e => absurd e (Bool.eq_false_iff.1 (by kernel_rfl))), (fun e => absurd e (Bool.eq_false_iff.1 (by kernel_rfl))), trivial⟩ (fun hHeld => ?_)
                clear hK K
                try simp only [List.getElem_toArray, List.getElem_cons_succ, List.getElem_cons_zero, Act.put, List.setIfInBounds_toArray, List.set_cons_zero, List.set_cons_succ]
                refine wpAnyE_done (by kernel_rfl) (only_normal ?_) _
                gi_wp2
                exact ⟨HS2.out.ko.from _, HS2.out.kn, HKN.out.trans HS2.out.kn, _, _, by simpa [keysL, valsL] using HS2.out.here⟩
            · clear hHeld
              go_simp
              refine hK.out _ _ ⟨fun _ => HV.out.ba.cell 0, fun _ => HV.out.bv.cell 0, trivial⟩ (fun hHeld => ?_)
              clear hK K
              try simp only [List.getElem_toArray, List.getElem_cons_succ, List.getElem_cons_zero, Act.put, List.setIfInBounds_toArray, List.set_cons_zero, List.set_cons_succ]
              refine wpAnyE_ready (rs := [2]) (by kernel_rfl) (by simp) (AllE.cons rfl (fun K hK => ?_) AllE.nil)
              clear hHeld
              go_simp
              refine hK.out _ _ ⟨fun _ => HVK.out.ba.cell 0, fun _ => HVK.out.bv.cell 0, trivial⟩ (fun hHeld => ?_)
              clear hK K
              try simp only [List.getElem_toArray, List.getElem_cons_succ, List.getElem_cons_zero, Act.put, List.setIfInBounds_toArray, List.set_cons_zero, List.set_cons_succ]
              refine wpAnyE_ready (rs := [3]) (by kernel_rfl) (by simp) (AllE.cons rfl (fun K hK => ?_) AllE.nil)
              clear hHeld
              refine step_pushA (v := a) (n := pre.length) (l := keysL pre) rfl (.tmp 68) (.tmp 70) rfl rfl HVK.out.ra x Wv1.heap.size rfl FKV.out (by omega) HVK.out.tw.size ?_
              intro g1 cap1 w2 h1 h2
              have HX := Lib.hid (HVK.out.pushA h1 h2)
              have EV2 := Lib.hid (blk_row FVK.out HVK.out.ra (by decide) h2)
              clear h1 h2
              refine hK.out _ _ ⟨fun _ => HX.out.ba.cell 0, fun _ => HX.out.bv.cell 0, trivial⟩ (fun hHeld => ?_)
              clear hK K
              try simp only [List.getElem_toArray, List.getElem_cons_succ, List.getElem_cons_zero, Act.put, List.setIfInBounds_toArray, List.set_cons_zero, List.set_cons_succ]
              refine wpAnyE_ready (rs := [7]) (by kernel_rfl) (by simp) (AllE.cons rfl (fun K hK => ?_) AllE.nil)
              clear hHeld
              refine step_pushV (v := v) (n := pre.length) (l := valsL pre) rfl (.tmp 72) (.tmp 74) rfl rfl HX.out.rv y W.heap.size rfl EV2.out (by omega) HX.out.tw.size ?_
              intro g2 cap2 w4 h1 h2
              have HY := Lib.hid (HX.out.pushV h1 h2)
              clear h1 h2
              refine hK.out _ _ ⟨fun _ => HY.out.ba.cell 0, fun _ => HY.out.bv.cell 0, trivial⟩ (fun hHeld => ?_)
              clear hK K
              try simp only [List.getElem_toArray, List.getElem_cons_succ, List.getElem_cons_zero, Act.put, List.setIfInBounds_toArray, List.set_cons_zero, List.set_cons_succ]
              have HS1 := Lib.hid HY.out.setA
              have HS2 := Lib.hid HS1.out.setV
              have e8 := HY.out.ba.cell 0
              have fe8 := HY.out.ba.frozen 0
              have e9 := HS1.out.bv.cell 0
              have fe9 := HS1.out.bv.frozen 0
              simp only [List.getElem?_toArray, List.getElem?_cons_zero] at e8 e9
              refine wpAnyE_ready (rs := [8]) (by kernel_rfl) (by simp) (AllE.cons rfl (fun K hK => ?_) AllE.nil)
              clear hHeld
              go_simp
              refine hK.out _ _ ⟨(fun e => absurd e (Bool.eq_false_iff.1 (by kernel_rfl))), fun _ => HS1.out.bv.cell 0, trivial⟩ (fun hHeld => ?_)
              clear hK K
              try simp only [List.getElem_toArray, List.getElem_cons_succ, List.getElem_cons_zero, Act.put, List.setIfInBounds_toArray, List.set_cons_zero, List.set_cons_succ]
              refine wpAnyE_ready (rs := [9]) (by kernel_rfl) (by simp) (AllE.cons rfl (fun K hK => ?_) AllE.nil)
              clear hHeld
              go_simp
              refine hK.out _ _ ⟨(fun e => absurd e (Bool.eq_false_iff.1 (by kernel_rfl))), (fun e => absurd e (Bool.eq_false_iff.1 (by kernel_rfl))), trivial⟩ (fun hHeld => ?_)
              clear hK K
              try simp only [List.getElem_toArray, List.getElem_cons_succ, List.getElem_cons_zero, Act.put, List.setIfInBounds_toArray, List.set_cons_zero, List.set_cons_succ]
              refine wpAnyE_done (by kernel_rfl) (only_normal ?_) _
              gi_wp2
              exact ⟨HS2.out.ko.from _, HS2.out.kn, HKN.out.trans HS2.out.kn, _, _, by simpa [keysL, valsL] using HS2.out.here⟩

          case rest =>
            rintro D W3 hD ⟨hkn, a, v, hA⟩ hKD
            have hKN := Lib.hid hkn
            clear hkn
            have HA3 := Lib.hid hA
            have HKD := Lib.hid hKD
            have HDD := Lib.hid hD
            clear hA hKD hD
            go_wp2_with (first
              | (go_at_call 26
                 refine (OI.under_fn g px _).mono ?_
                 rintro _ wz ⟨rfl, hw0⟩)
              | fail)
            obtain ⟨W4, hW4⟩ : ∃ W4, (W3.alloc (.cells #[.pointer (some ⟨g, 0, none⟩)] 25)).alloc (.cells #[.string px] 9) = W4 := ⟨_, rfl⟩
            rw [hW4]
            clear hw0
            have htA := HA3.out.tw
            have hs3 : W0.heap.size ≤ W3.heap.size := htA.size
            have hs4 : W3.heap.size + 2 ≤ W4.heap.size := by rw [← hW4]; simp
            have hs4b : W4.heap.size ≤ W3.heap.size + 2 := by rw [← hW4]; simp
            have hb4 : Below W3.heap.size W3 W4 := hW4 ▸ ((Below.refl _ W3).alloc (Nat.le_refl _) _).alloc (by simp) _
            have hk4 : ∀ b, b < W0.heap.size → b ≠ Ba → b ≠ Bv → W4.heap[b]? = W0.heap[b]? := fun b h1 h2 h3 => (hb4.block b (by omega)).trans (htA.block b h1 h2 h3)
            have bM4 : Blk W4 W3.heap.size 25 #[.pointer (some ⟨g, 0, none⟩)] := hW4 ▸ Blk.alloc (Blk.new W3 25 _) _
            have bX4 : Blk W4 (W3.heap.size + 1) 9 #[.string px] := by
              have := Blk.new (W3.alloc (.cells #[.pointer (some ⟨g, 0, none⟩)] 25)) 9 #[.string px]
              rw [World.size_alloc] at this
              rw [← hW4]; exact this
            have bS4 : Blk W4 (Ba + 1) 27 #[.slice none 0 0] := (hk4 _ bS.lt (by omega) (by omega)).trans bS
            have bst4 : Blk W4 w.heap.size 3 #[.int .i64 st] := (hk4 _ hstW.lt (by omega) (by omega)).trans hstW
            have hO3 : OI.Om W3 g L := hOW.keep (htA.block g (by omega) (by omega) (by omega)) (hKN.out)
            have hO4 : OI.Om W4 g L := hO3.below hb4
            have hK4 : W4.heap[D]? = some (.deferred (some [])) := (hb4.block D (by
              rcases Nat.lt_or_ge D W3.heap.size with hlt | hge
              · exact hlt
              · have := HKD.out; rw [Array.getElem?_eq_none hge] at this; cases this)).trans HKD.out
            have hDlt : D < W4.heap.size := by
              rcases Nat.lt_or_ge D W4.heap.size with hlt | hge
              · exact hlt
              · rw [Array.getElem?_eq_none hge] at hK4; cases hK4
            obtain ⟨U, hU⟩ : ∃ U, L.filter (fun q => preB px q.1) = U := ⟨_, rfl⟩
            obtain ⟨M, hM⟩ : ∃ M, U.length = M := ⟨_, rfl⟩
            have hML : M ≤ N := by rw [← hM, ← hU, ← HN.out]; exact List.length_filter_le _ _
            have hst2 := om_stops 5 W3.heap.size (W3.heap.size + 1) g L U px (by omega) W4 bM4 bX4 hO4 hks hU
            rw [hM] at hst2
            have HU := Lib.hid hU
            have HM2 := Lib.hid hM
            have hDD := HDD.out
            obtain ⟨i0, hi, hz0, hz1, hz2⟩ := info_parts info9s
            refine range_plain (gf := 33) (lb := #[.pointer (some ⟨W3.heap.size, 0, none⟩), .pointer (some ⟨W3.heap.size + 1, 0, none⟩)]) rfl (enters_of Try.func33 (by kernel_rfl) rfl) hst2 (fun h k => h.trans k) (fun W l o o' hl h1 h2 h3 => OI.KeepN.put (w := W4) W l o o' hl h1 h2 h3) (fun _ => rfl)
              (fun pre W => ((∃ u, Blk W (Ba + 1) 27 #[u] ∧ W.ownsRow W4.heap.size 9 1 u pre.length (svs (keysL pre))) ∧ Tw W4 W (Ba + 1) (Ba + 1) ∧ OI.KeepN W4 W) ∧ ((pre.length : Nat) : Int) ≤ max st 0)
              (fun c ys W => c = .exit 4 ∧ ∃ pre x, ys = pre ++ [x] ∧ ((∃ u, Blk W (Ba + 1) 27 #[u] ∧ W.ownsRow W4.heap.size 9 1 u pre.length (svs (keysL pre))) ∧ Tw W4 W (Ba + 1) (Ba + 1) ∧ OI.KeepN W4 W) ∧ ((pre.length : Nat) : Int) ≤ max st 0 ∧ st ≤ ((pre.length : Nat) : Int))
              (fun s A B row hs hg hr => ⟨some_own hs.1 hg hr, hs.2⟩)
              (fun c s A B row hs hg hr => by
                obtain ⟨h1, pre, x, h2, h3, h4⟩ := hs
                exact ⟨h1, pre, x, h2, some_own h3 hg hr, h4⟩)
              ⟨⟨⟨_, bS4, World.ownsRow_nil _ _ _ _⟩, Tw.refl _ _ _, OI.KeepN.refl _⟩, by simp only [List.length_nil]; omega⟩
              4 (fun W => (∃ u, Blk W (Ba + 1) 27 #[u] ∧ W.ownsRow W4.heap.size 9 1 u (min M st.toNat) (svs ((keysL U).take (min M st.toNat)))) ∧ Tw W4 W (Ba + 1) (Ba + 1) ∧ OI.KeepN W4 W)
              (fun xs' W hS hI => ?S2) (fun c pre W hSp hIx => ?X2) (fun a w h => by simpa [Exit.inBlock] using h) ?a2 ?assign2 ?body2 ?rest2
            case assign2 =>
              intro l x W K hK
              simp only [OI.enI]
              gi_wp2
              exact hK
            case S2 =>
              subst hS
              obtain ⟨h1, h2⟩ := hI
              obtain ⟨h3, h4⟩ := under_done HM2.out (List.prefix_refl _) h2 (.inl HM2.out)
              rw [h4, h3] at h1
              exact h1
            case X2 =>
              obtain ⟨h1, pre', x, rfl, h2, h3, h4⟩ := hIx
              obtain ⟨h5, h6⟩ := under_done HM2.out ((List.prefix_append _ _).trans hSp) h3 (.inr h4)
              rw [h6, h5] at h2
              exact ⟨h1, h2⟩
            case body2 =>
              rintro l pre ⟨x, y⟩ W ⟨⟨⟨u, hb, hr⟩, ht, hkn⟩, hle⟩ hplt
              have cu := hb.cell 0
              have cst : W.cell? ⟨w.heap.size, 0, none⟩ = some (.int .i64 st) := (show Blk W w.heap.size 3 #[.int .i64 st] from (ht.block _ bst4.lt (by omega) (by omega)).trans bst4).cell 0
              simp only [List.getElem?_toArray, List.getElem?_cons_zero] at cu
              obtain ⟨A1, c1, g1, rfl, _⟩ := sl_at hr (by unfold keysL; rw [List.length_map])
              have hpl : pre.length ≤ 80 := by omega
              by_cases h2 : ((pre.length : Nat) : Int) ≥ st
              · have HR := Lib.hid (show ((∃ u, Blk W (Ba + 1) 27 #[u] ∧ W.ownsRow W4.heap.size 9 1 u pre.length (svs (keysL pre))) ∧ Tw W4 W (Ba + 1) (Ba + 1) ∧ OI.KeepN W4 W) from ⟨⟨_, hb, hr⟩, ht, hkn⟩)
                have HLE := Lib.hid hle
                clear hb hr ht hkn hle
                gi_wp2
                exact ⟨(KeepsOthers.refl _).from _, rfl, pre, _, rfl, HR.out, HLE.out, h2⟩
              · have HB := Lib.hid hb
                have HR := Lib.hid hr
                have HT := Lib.hid ht
                have HKN2 := Lib.hid hkn
                have HLE := Lib.hid hle
                have hts := ht.size
                clear hb ht hkn hle
                gi_wp2_with (first
                  | (gi_at_builtin
                     refine wpListIn_append_own _ rfl _ _ 27 rfl W4.heap.size 9 i0 (.string .empty) 1 16 Try.underlying27 hi hz0 hz1 hz2 rfl (by decide) _ _ _ rfl (hr.alloc _) ⟨W.heap.size, 0, none⟩ 1 1 [.string x] rfl rfl (cell_one_new _ _ _) (by simp [Value.oneCell']) (by unfold maxLen; omega) (by omega) (by simp; omega) ?_
                     intro v' w2 hown' hgrow _
                     obtain ⟨g', cap', rfl⟩ := ownsRow_succ hown'
                     obtain ⟨hb2, hfin⟩ := one_push HB.out HR.out HT.out _ hgrow (by unfold svs at hown' ⊢; rw [List.map_append]; exact hown')
                     have HFIN := Lib.hid hfin
                     have hc1 := hb2.cell 0
                     have hf1 := hb2.frozen 0
                     simp only [List.getElem?_toArray, List.getElem?_cons_zero] at hc1
                     clear hb2 hfin hown' hgrow)
                  | fail)
                obtain ⟨f1, f2, f3, f4, f5⟩ := HFIN.out
                refine ⟨f5.from _, f4, ⟨⟨⟨_, f1, ?_⟩, f3, HKN2.out.trans f4⟩, ?_⟩⟩
                · simpa [keysL] using f2
                · simp only [List.length_append, List.length_singleton]; push_cast; omega
            case rest2 =>
              rintro D2 W5 hD2 ⟨⟨u, hbu, hru⟩, htB, hkn5⟩ hKD2
              obtain ⟨m, hm⟩ : ∃ m, min M st.toNat = m := ⟨_, rfl⟩
              rw [hm] at hru
              have hmM : m ≤ M := by omega
              have hUl : (keysL U).length = M := by rw [keysL_len]; exact HM2.out
              have htl : ((keysL U).take m).length = m := by rw [List.length_take, hUl]; omega
              have hk5 : ∀ b, b < W4.heap.size → b ≠ Ba + 1 → W5.heap[b]? = W4.heap[b]? := fun b h1 h2 => htB.block b h1 h2 h2
              have hba5 : Blk W5 Ba 27 #[a] := (hk5 _ (by have := HA3.out.ba.lt; omega) (by omega)).trans (HA3.out.ba.below hb4 HA3.out.ba.lt)
              have hbv5 : Blk W5 Bv 28 #[v] := (hk5 _ (by have := HA3.out.bv.lt; omega) (by omega)).trans (HA3.out.bv.below hb4 HA3.out.bv.lt)
              have hra4 : W4.ownsRow W0.heap.size 9 1 a N (svs (keysL L)) := row_below HA3.out.ra hb4
              have hrv4 : W4.ownsRow W0.heap.size 2 1 v N (ivs (valsL L)) := row_below HA3.out.rv hb4
              have hra5 : W5.ownsRow W0.heap.size 9 1 a N (svs (keysL L)) := row_tw hra4 htB (by omega) (by omega)
              have hrv5 : W5.ownsRow W0.heap.size 2 1 v N (ivs (valsL L)) := row_tw hrv4 htB (by omega) (by omega)
              obtain ⟨Aa, ca, ga, rfl, hsa⟩ := sl_at hra5 (by rw [keysL_len]; exact HN.out)
              obtain ⟨Av, cv, gv, rfl, hsv⟩ := iv_at hrv5 (by unfold valsL; rw [List.length_map]; exact HN.out)
              obtain ⟨As, cs, gs, rfl, hss⟩ := sl_at hru htl
              have cA : W5.cell? ⟨Ba, 0, none⟩ = some (.slice Aa N ca) := hba5.cell 0
              have cV : W5.cell? ⟨Bv, 0, none⟩ = some (.slice Av N cv) := hbv5.cell 0
              have cS : W5.cell? ⟨Ba + 1, 0, none⟩ = some (.slice As m cs) := hbu.cell 0
              have cst : W5.cell? ⟨w.heap.size, 0, none⟩ = some (.int .i64 st) := (show Blk W5 w.heap.size 3 #[.int .i64 st] from (hk5 _ bst4.lt (by omega)).trans bst4).cell 0
              have HO5 := Lib.hid (hO4.keep (hk5 g (by omega) (by omega)) hkn5)
              have HK5 := Lib.hid ((hk5 D hDlt (by omega)).trans hK4)
              have HK5b := Lib.hid hKD2
              have HD52 := Lib.hid hD2
              have HBW := Lib.hid (show Below w.heap.size w W5 by
                refine H1.out.trans ((hbel.mono (by have := HS1.out; omega)).trans ((HB0.out.mono (by omega)).trans (Below.trans (htA.below (by omega) (by omega) (by omega)) ((hb4.mono (by omega)).trans (htB.below (by omega) (by omega) (by omega)))))))
              have HSA2 := Lib.hid hsa
              have HBA := Lib.hid hba5
              have HBS := Lib.hid hbu
              have HSV := Lib.hid hsv
              have HSS := Lib.hid hss
              have HMM := Lib.hid hm
              have HDlt := Lib.hid hDlt
              have HKS := Lib.hid hks
              have hNI : (N : Int) ≤ 80 := by omega
              have hmI : (m : Int) ≤ 80 := by omega
              clear hsa hsv hss hm hba5 hbv5 hra5 hrv5 hra4 hrv4 htB hkn5 hKD2 hD2 hk5 hks hbu hru
              go_wp2_with fail
              go_loopw [15, 16] (fun nn i wr => ∃ q nq : Nat, q ≤ N ∧ i = .int .i64 (q : Int) ∧ (∃ c : Nat, min ((L.take q).filter (fun p => preB px p.1)).length st.toNat = c ∧ nn = .int .i64 (c : Int)) ∧ wr = W5.drewN nq) (fun _ i _ => N - (intOf i).toNat)
              case atStart => exact ⟨0, 0, Nat.zero_le _, rfl, ⟨0, by simp, rfl⟩, rfl⟩
              case round =>
                obtain ⟨q, nq0, hq, rfl, ⟨c, hcc, rfl⟩, rfl⟩ := hrel
                have HCC := Lib.hid hcc
                clear hcc
                by_cases hqm : q < N
                · obtain ⟨⟨x, y⟩, hxy⟩ : ∃ p, L[q]? = some p := ⟨L[q]'(by rw [HN.out]; exact hqm), List.getElem?_eq_getElem _⟩
                  have hkx : (keysL L)[q]? = some x := by unfold keysL; rw [List.getElem?_map, hxy]; rfl
                  have hvy : (valsL L)[q]? = some y := by unfold valsL; rw [List.getElem?_map, hxy]; rfl
                  obtain ⟨rfl, _, e1⟩ := HSA2.out.2 q x hkx
                  obtain ⟨rfl, _, e2⟩ := HSV.out q y hvy
                  have HGT := Lib.hid (fun nq => OI.om_get (om_drewN HO5.out nq) x (some y) (getL_of HO5.out.srt (List.mem_of_getElem? hxy)))
                  have HXY := Lib.hid hxy
                  have hxs : x.size ≤ 40 := HC.out.key (x, y) (List.mem_of_getElem? hxy)
                  have hqI : (q : Int) < (N : Int) := by omega
                  have hov : OI.ov (some y) = .int .i64 y := rfl
                  have hcI : (c : Int) ≤ 80 := by have := HCC.out; have := filt_le L q (fun p => preB px p.1); rw [HU.out, HM2.out] at this; omega
                  clear hkx hvy hxy hqm
                  have HFS := Lib.hid (filt_succ (fun p => preB px p.1) HXY.out)
                  by_cases hc1 : x.size < px.size
                  · have hc1I : (x.size : Int) < (px.size : Int) := by omega
                    have HNP := Lib.hid (show preB px x = false by unfold preB; rw [decide_eq_false (by omega)]; rfl)
                    go_wp2_with (first
                      | (go_at_call 13
                         refine (HGT.out nq0).mono ?_
                         rintro _ wz ⟨rfl, hw0⟩
                         replace hw0 := hw0.symm
                         subst hw0
                         rw [hov])
                      | fail)
                    go_roundw
                    case rel => exact ⟨q + 1, _, by omega, by go_num, ⟨c, by rw [HFS.out]; simp only [HNP.out]; simpa using HCC.out, rfl⟩, rfl⟩
                    case measure => simp [intOf]; omega
                  · have hc1I : ¬ (x.size : Int) < (px.size : Int) := by omega
                    have hc1J : (px.size : Int) ≤ (x.size : Int) := by omega
                    by_cases hpb : preB px x = true
                    · have hsub := (preB_yes hpb).2
                      have HFA := Lib.hid (filt_at (fun p => preB px p.1) HXY.out hpb)
                      have HPB := Lib.hid hpb
                      clear hpb
                      by_cases hst3 : ((c : Nat) : Int) ≥ st
                      · go_wp2_with (first
                          | (go_at_call 13
                             refine (HGT.out nq0).mono ?_
                             rintro _ wz ⟨rfl, hw0⟩
                             replace hw0 := hw0.symm
                             subst hw0
                             rw [hov])
                          | fail)
                        go_roundw
                        case rel => exact ⟨q + 1, _, by omega, by go_num, ⟨c, by rw [HFS.out]; simp only [HPB.out, if_true, List.length_append, List.length_singleton]; have := HCC.out; omega, rfl⟩, rfl⟩
                        case measure => simp [intOf]; omega
                      · have hF := HCC.out
                        have hFc : ((L.take q).filter (fun p => preB px p.1)).length = c := by omega
                        have hfa := HFA.out
                        rw [HU.out, hFc] at hfa
                        have hcM : c < M := by have := (List.getElem?_eq_some_iff.1 hfa).1; rw [HM2.out] at this; exact this
                        have hcm : c < m := by have := HMM.out; omega
                        have hsx : ((keysL U).take m)[c]? = some x := by rw [List.getElem?_take, if_pos hcm]; unfold keysL; rw [List.getElem?_map, hfa]; rfl
                        obtain ⟨rfl, _, e3⟩ := HSS.out.2 c x hsx
                        have hd1 : decide ((c : Int) ≥ (m : Int)) = false := decide_eq_false (by omega)
                        have hd2 : decide ((m : Int) ≤ (c : Int)) = false := decide_eq_false (by omega)
                        have hd3 : decide (m ≤ c) = false := decide_eq_false (by omega)
                        have hcmI : (c : Int) < (m : Int) := by omega
                        have HCN := Lib.hid (show min (((L.take (q + 1)).filter (fun p => preB px p.1)).length) st.toNat = c + 1 by rw [HFS.out]; simp only [HPB.out, if_true, List.length_append, List.length_singleton]; omega)
                        clear hF hFc hfa hsx
                        go_wp2_with (first
                          | (go_at_call 13
                             refine (HGT.out nq0).mono ?_
                             rintro _ wz ⟨rfl, hw0⟩
                             replace hw0 := hw0.symm
                             subst hw0
                             rw [hov])
                          | fail)
                        go_quiet (fail)
                        go_wp2
                        go_roundw
                        case rel => exact ⟨q + 1, _, by omega, by go_num, ⟨c + 1, HCN.out, by go_num⟩, rfl⟩
                        case measure => simp [intOf]; omega
                    · have hpb' : preB px x = false := by simpa using hpb
                      have hsub := preB_not hpb' (by omega)
                      have HNP := Lib.hid hpb'
                      clear hpb hpb'
                      go_wp2_with (first
                        | (go_at_call 13
                           refine (HGT.out nq0).mono ?_
                           rintro _ wz ⟨rfl, hw0⟩
                           replace hw0 := hw0.symm
                           subst hw0
                           rw [hov])
                        | fail)
                      go_roundw
                      case rel => exact ⟨q + 1, _, by omega, by go_num, ⟨c, by rw [HFS.out]; simp only [HNP.out]; simpa using HCC.out, rfl⟩, rfl⟩
                      case measure => simp [intOf]; omega
                · obtain rfl : N = q := by omega
                  obtain rfl : m = c := by
                    have h1 := HCC.out
                    have h2 := HMM.out
                    rw [List.take_of_length_le (by rw [HN.out]; exact Nat.le_refl _), HU.out, HM2.out] at h1
                    omega
                  clear hqm
                  have HKY := Lib.hid (fun W (h : OI.Om W g L) => om_keysX h (by rw [HN.out]; omega) HKS.out N HN.out)
                  have hlA : Ba < W5.heap.size := Blk.lt (show Blk W5 Ba 27 #[_] from HBA.out)
                  have hlS : Ba + 1 < W5.heap.size := Blk.lt (show Blk W5 (Ba + 1) 27 #[_] from HBS.out)
                  have HLA := Lib.hid hlA
                  have HLS := Lib.hid hlS
                  clear hlA hlS
                  go_wp2_with fail
                  go_region_held3 (fun w' => w'.cell? ⟨Ba, 0, none⟩ = some (.slice Aa N ca) ∧ w'.cell? ⟨Ba + 1, 0, none⟩ = some (.slice As m cs)) (first | exact ⟨cA, cS⟩ | exact e1) (first
                    | (go_at_call 17
                       (refine (HKY.out _ ?_).mono ?_)
                       · exact HO5.out.keep rfl (fun _ _ x => x)
                       rintro _ w6 ⟨Ak, ck, gk, rfl, hsk, _, hb⟩
                       have HSK := Lib.hid hsk
                       have HB6 := Lib.hid (show Below W5.heap.size W5 w6 from (below_drewN (Below.refl W5.heap.size W5) _).trans hb)
                       have e1 : w6.cell? ⟨Ba, 0, none⟩ = some (.slice Aa N ca) ∧ w6.cell? ⟨Ba + 1, 0, none⟩ = some (.slice As m cs) := ⟨(HB6.out.cell (p := ⟨Ba, 0, none⟩) HLA.out).trans cA, (HB6.out.cell (p := ⟨Ba + 1, 0, none⟩) HLS.out).trans cS⟩
                       have htx := texts_same (HSA2.out.below HB6.out) HSK.out (by rw [keysL_len, HN.out]; omega)
                       rw [keysL_len, HN.out] at htx
                       have HTX := Lib.hid htx
                       clear hsk hb htx)
                    | (go_at_call 16
                       (refine (HTX.out).mono ?_)
                       rintro _ w7 ⟨rfl, hb⟩
                       have HB7 := Lib.hid (HB6.out.trans (hb.mono HB6.out.size))
                       have e1 : w7.cell? ⟨Ba, 0, none⟩ = some (.slice Aa N ca) ∧ w7.cell? ⟨Ba + 1, 0, none⟩ = some (.slice As m cs) := ⟨(HB7.out.cell (p := ⟨Ba, 0, none⟩) HLA.out).trans cA, (HB7.out.cell (p := ⟨Ba + 1, 0, none⟩) HLS.out).trans cS⟩
                       have hln := OI.om_len (HO5.out.below HB7.out)
                       rw [HN.out] at hln
                       have HLN := Lib.hid hln
                       clear hb hln)
                    | (go_at_call 15
                       (refine (HLN.out).mono ?_)
                       rintro _ wz ⟨rfl, hw0⟩
                       replace hw0 := hw0.symm
                       subst hw0)
                    | fail)
                  all_goals (
                    go_wp2
                    have k2 : w7.heap[D2]? = some (.deferred (some [])) := (HB7.out.block D2 (by
                      rcases Nat.lt_or_ge D2 W5.heap.size with hlt | hge
                      · exact hlt
                      · have := HK5b.out; rw [Array.getElem?_eq_none hge] at this; cases this)).trans HK5b.out
                    have k1' : w7.heap[D]? = some (.deferred (some [])) := (HB7.out.block D (by
                      rcases Nat.lt_or_ge D W5.heap.size with hlt | hge
                      · exact hlt
                      · have := HK5.out; rw [Array.getElem?_eq_none hge] at this; cases this)).trans HK5.out
                    have k1 : (w7.putObj D2 (.deferred none)).heap[D]? = some (.deferred (some [])) := (World.putObj_heap_other (by have := HD52.out; have := HDlt.out; omega)).trans k1'
                    refine ⟨by simp, .inl ⟨_, _, rfl, run_takeDeferred k2, by simp, .inl ⟨_, _, rfl, run_takeDeferred k1, ?_⟩⟩⟩
                    have hbz : Below w.heap.size w w7 := HBW.out.trans (HB7.out.mono HBW.out.size)
                    exact ⟨_, results_tmp rfl _ _ _, rfl, (hbz.trans (belowK_b (w := w) (Nat.le_refl _) _ D2 _ _ (by have := HD52.out; omega) k2 rfl rfl)).trans (belowK_b (w := w) (Nat.le_refl _) _ D _ _ (by omega) k1 rfl rfl)⟩)
theorem omapWalks_walk (w : World) (A0 : Option Addr) (len0 cap0 : Nat) (S0 : Sh.ok w (Sh.slice 3 (Sh.agg 3 [(0, 1, (Sh.int .i64)), (1, 1, Sh.str), (2, 1, (Sh.int .i64))])) [.slice A0 len0 cap0]) (s1 : ByteArray) (hs1 : s1.size ≤ maxLen) (a2 : Int) (w2 : (Lit.int .i64 a2).wf = true) :
    Calls Try.prog 6 #[.slice A0 len0 cap0, .string s1, .int .i64 a2] w fun e w' => e = .returned (.bool true) ∧ Below w.heap.size w w' := by
  obtain ⟨b, off, xs, hl, hm, hA⟩ := acts_of S0
  exact owalks_in w A0 len0 cap0 b off xs hl hm hA s1 hs1 a2
end Go.Proofs.Ytmapfbnfcbkjpaa
