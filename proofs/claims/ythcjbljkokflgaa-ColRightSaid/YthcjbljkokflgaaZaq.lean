/- The reference's Apply: dr. -/
import Derived.Test.YthcjbljkokflgaaZal
set_option linter.unnecessarySimpa false
namespace Go.Proofs.Ythcjbljkokflgaa
open Go.RowKit
open Go.Lib
set_option linter.unusedVariables false
set_option linter.unusedSimpArgs false
set_option maxRecDepth 100000
set_option maxHeartbeats 16000000 in
theorem rdr_any {w : World} {B g : Nat} {R : Rs} (h : Rc w B g R) (hB : B ≤ w.heap.size) (hs : Srt R.L) (hn : R.L.length ≤ 20000) (hgn : R.log.length ≤ 20000) (uid card : ByteArray) (k v tok : Int) (hla : ¬ tok < R.latest) (hth : (getL uid R.L).isSome = true) (hfu : ¬ (R.lim < (R.log.length : Int) + 1)) :
    Calls Try.prog 17 #[.pointer (some ⟨g, 0, none⟩), .agg #[.bool true, .string uid, .string card, .int .i64 k, .int .i64 v], .int .i64 tok] w fun e w' => e = .returned (.bool true) ∧ Rc w' B g (rYes R true uid card tok) ∧ Kc RT B w w' := by
  obtain ⟨i0, hi, hz0, hz1, hz2⟩ := info_parts infoIt
  obtain ⟨j0, hj, hy0, hy1, hy2⟩ := info_parts infoG
  obtain ⟨WA, hWA⟩ : ∃ WA, w.alloc (.cells #[.bool true, .string uid, .string card, .int .i64 k, .int .i64 v] 33) = WA := ⟨_, rfl⟩
  have HBA := Lib.hid (show Below w.heap.size w WA from hWA ▸ (Below.refl _ w).alloc (Nat.le_refl _) _)
  have HXA := Lib.hid (show Blk WA w.heap.size 33 #[.bool true, .string uid, .string card, .int .i64 k, .int .i64 v] from hWA ▸ Blk.new w _ _)
  have HSA := Lib.hid (show WA.heap.size = w.heap.size + 1 by rw [← hWA, World.size_alloc])
  have h0lt := h.lt
  have hRA := h.on HBA.out
  have HPL := Lib.hid (rplace_any hRA hs (by omega) uid)
  rw [hth] at HPL
  have HYE := Lib.hid (show rYes R true uid card tok = rYes R true uid card tok from rfl)
  have HIL := Lib.hid (plc_le uid R.L)
  have HTH := Lib.hid (fun e : (getL uid R.L).isSome = true => plc_lt hs e)
  obtain ⟨L, lg, cd, lm, la, hor⟩ := R
  obtain ⟨VL, VG, hG, hL, hLg, hBg⟩ := hRA
  simp only at hG hL hLg hn hgn hla hth hfu HPL HIL HTH
  obtain ⟨A, cap, gl, rfl, hcap, hsk⟩ := sk_row hL
  obtain ⟨AG, capG, gG, rfl, hcapG, hskG⟩ := sk_row hLg
  have HGA := Lib.hid hG
  have HSK := Lib.hid hsk
  have HLO := Lib.hid hL
  have HLG := Lib.hid hLg
  have HBG := Lib.hid hBg
  have hglt : g < WA.heap.size := hG.lt
  have HGW := Lib.hid (show g < w.heap.size from h0lt)
  obtain ⟨q, hq⟩ : ∃ q, plc uid L = q := ⟨_, rfl⟩
  rw [hq] at HPL HIL HTH
  have HQ := Lib.hid hq
  have HQQ := Lib.hid (show (if (getL uid L).isSome = true then plc uid L + 1 else plc uid L) = q + 1 by rw [hq, hth]; rfl)
  obtain ⟨n, hnL⟩ : ∃ n, L.length = n := ⟨_, rfl⟩
  have HNL := Lib.hid hnL
  have hqn : q ≤ n := by have := HIL.out; omega
  have hqt : q < n := by have := HTH.out hth; omega
  rw [hnL] at hn hcap hG HGA HLO
  have hqI : (q : Int) ≤ (n : Int) := by omega
  have c0 := hG.cell 0
  have c2 := hG.cell 2
  have c4 := hG.cell 4
  have x0 := HXA.out.cell 0
  have x1 := HXA.out.cell 1
  have x2 := HXA.out.cell 2
  simp only [List.getElem?_toArray, List.getElem?_cons_zero, List.getElem?_cons_succ] at c0 c2 c4 x0 x1 x2
  have hcut := icut_to A n cap q (by omega)
  have HFO := Lib.hid (fun (W : World) (hb : Below WA.heap.size WA W) => (hsk.on hb).from 4 (by decide) (q + 1) n (by rw [itsC_len, itsK_len, hnL]) hcap (by omega))
  have HTO := Lib.hid (fun (W : World) (hb : Below WA.heap.size WA W) => (hsk.on hb).to 4 (by decide) q (by rw [itsC_len, itsK_len, hnL]; omega))
  have HW1 := Lib.hid (show IntKind.i64.wrap ((q : Int) + 1) = (q : Int) + 1 from IntWalk.i64_in _ (by omega))
  have HW2 := Lib.hid (show wrap64 ((q : Int) + 1) = (q : Int) + 1 from IntWalk.wrap64_in _ (by omega))
  have HCF := Lib.hid (icut_from A n cap (q + 1) ((q : Int) + 1) (by omega) (by omega))
  have HMA := Lib.hid (show 0 + q ≤ maxLen ∧ (0 + q) * 48 ≤ 140737488355328 from ⟨by unfold maxLen; omega, by omega⟩)
  have HMB := Lib.hid (show q + 1 ≤ maxLen ∧ (q + 1) * 48 ≤ 140737488355328 from ⟨by unfold maxLen; omega, by omega⟩)
  have HMC := Lib.hid (show q + (n - (q + 1)) ≤ maxLen ∧ (q + (n - (q + 1))) * 48 ≤ 140737488355328 from ⟨by unfold maxLen; omega, by omega⟩)
  have dla : decide (tok < la) = false := decide_eq_false hla
  clear hG hL hLg hsk hBg hq hnL h hs hth
  go_enter Try.func17, Try.ntmps17
  go_wp2_with fail
  try rw [hWA]
  refine HPL.out.mono ?_
  rintro _ w1 ⟨rfl, nq, rfl⟩
  go_wp2_with fail
  go_quiet (fail)
  have HBN := Lib.hid (fun m => below_drewN (Below.refl WA.heap.size WA) m)
  have HON := Lib.hid (fun (W : World) => (World.ownsRow_nil W WA.heap.size 62 4))
  have hcf := HCF.out
  go_wp2_with (first
    | (at_builtin
       refine wpList_apps _ rfl (.tmp 52) (.tmp 58) 40 62 rfl i0 _ 4 48 Try.underlying40 hi hz0 hz1 hz2 rfl (by decide) WA.heap.size _ 0 [] rfl (HON.out _) A q cap ((itsC (itsK L)).take (q * 4)) rfl (by rw [List.length_take, itsC_len, itsK_len, HNL.out]; omega) (HTO.out _ (HBN.out _)) (fun u hu => itsC_one _ u (List.mem_of_mem_take hu)) HMA.out.1 HMA.out.2 (HBN.out _).size ?_
       intro v3 w4 hown hgr
       rw [Nat.zero_add, List.nil_append] at hown
       obtain ⟨A3, cap3, _, rfl, _, _⟩ := sk_row hown
       have HO4 := Lib.hid (show w4.ownsRow WA.heap.size 62 4 (.slice A3 q cap3) q ((itsC (itsK L)).take (q * 4)) from hown)
       have HB4 := Lib.hid ((HBN.out _).grown hgr (HBN.out _).size (fun k e => by cases e))
       have y0 : w4.cell? ⟨w.heap.size, 0, none⟩ = some (.bool true) := (HXA.out.below HB4.out HXA.out.lt).cell 0
       have y1 : w4.cell? ⟨w.heap.size, 1, none⟩ = some (.string uid) := (HXA.out.below HB4.out HXA.out.lt).cell 1
       have y2 : w4.cell? ⟨w.heap.size, 2, none⟩ = some (.string card) := (HXA.out.below HB4.out HXA.out.lt).cell 2
       have d2 : w4.cell? ⟨g, 2, none⟩ = some (.slice A n cap) := (HGA.out.below HB4.out HGA.out.lt).cell 2
       have df2 := (HGA.out.below HB4.out HGA.out.lt).frozen 2
       have HFR := Lib.hid (HFO.out w4 HB4.out)
       clear hown hgr)
    | (at_builtin
       refine wpList_apps _ rfl (.tmp 76) (.tmp 82) 40 62 rfl i0 _ 4 48 Try.underlying40 hi hz0 hz1 hz2 rfl (by decide) WA.heap.size (.slice A3 q cap3) q ((itsC (itsK L)).take (q * 4)) (by first | rfl | (go_simp; done) | trace_state) HO4.out (cutN 4 A cap (q + 1)) (n - (q + 1)) (cap - (q + 1)) ((itsC (itsK L)).drop ((q + 1) * 4)) (by first | rfl | (go_simp; done) | trace_state) (by rw [List.length_drop, itsC_len, itsK_len, HNL.out]; omega) HFR.out (fun u hu => itsC_one _ u (List.mem_of_mem_drop hu)) HMC.out.1 HMC.out.2 HB4.out.size ?_
       intro v5 w5 hown hgr
       obtain ⟨A5, cap5, _, rfl, _, _⟩ := sk_row hown
       have HO5 := Lib.hid hown
       have HB5 := Lib.hid (HB4.out.grown hgr HB4.out.size (fun k e => (HO4.out.lt k e).1))
       have HG5 := Lib.hid (HGA.out.below HB5.out HGA.out.lt)
       have e2 : w5.cell? ⟨g, 2, none⟩ = some (.slice A n cap) := HG5.out.cell 2
       have ef2 := HG5.out.frozen 2
       clear hown hgr)
    | fail)
  obtain ⟨W6, hW6⟩ : ∃ W6, w5.setCell ⟨g, 2, none⟩ (.slice A5 (q + (n - (q + 1))) cap5) = W6 := ⟨_, rfl⟩
  have HG6 := Lib.hid (show Blk W6 g 77 #[.int .i64 cd, .int .i64 lm, (.slice A5 (q + (n - (q + 1))) cap5), .slice AG lg.length capG, .int .i64 la, .int .i64 hor] from hW6 ▸ HG5.out.set_ 2 (.slice A5 (q + (n - (q + 1))) cap5))
  have HX6 := Lib.hid (show Blk W6 w.heap.size 33 #[.bool true, .string uid, .string card, .int .i64 k, .int .i64 v] from hW6 ▸ (HXA.out.below HB5.out HXA.out.lt).far (p := ⟨g, 2, none⟩) (by show w.heap.size ≠ g; have := HGW.out; omega) (.slice A5 (q + (n - (q + 1))) cap5))
  have HL6 := Lib.hid (show W6.ownsRow WA.heap.size 62 4 (.slice A5 (q + (n - (q + 1))) cap5) (q + (n - (q + 1))) _ from hW6 ▸ own_keep HO5.out (fun j hj => Below.heap_setCell w5 ⟨g, 2, none⟩ _ j (row_ne HO5.out HG5.out (by decide) j hj)))
  have HR6 := Lib.hid (show W6.ownsRow B 87 2 (.slice AG lg.length capG) lg.length (chC lg) from hW6 ▸ own_keep (own_below HLG.out HB5.out) (fun j hj => Below.heap_setCell w5 ⟨g, 2, none⟩ _ j (row_ne (own_below HLG.out HB5.out) HG5.out (by decide) j hj)))
  have HK6 := Lib.hid (show Kc RT B w W6 from hW6 ▸ (Kc.of (HBA.out.trans (HB5.out.mono HBA.out.size)) hB).set HG5.out (.inl rfl) HBG.out 2 (.slice A5 (q + (n - (q + 1))) cap5))
  try rw [hW6]
  have HFD := Lib.hid (show Below W6.heap.size W6 W6.drew from (Below.refl _ W6).drew)
  have HFE := Lib.hid (HFD.out.alloc HFD.out.size (.cells #[.int .i64 tok, .string uid] 87))
  have HN7 := Lib.hid (Blk.new W6.drew 87 #[.int .i64 tok, .string uid])
  have HC6 := Lib.hid (fun (W : World) (hb : Below W6.heap.size W6 W) => (⟨(HG6.out.below hb HG6.out.lt).cell 3, (HX6.out.below hb HX6.out.lt).cell 1⟩ : W.cell? ⟨g, 3, none⟩ = some (.slice AG lg.length capG) ∧ W.cell? ⟨w.heap.size, 1, none⟩ = some (.string uid)))
  have HBS := Lib.hid (show B ≤ (W6.drew.alloc (.cells #[.int .i64 tok, .string uid] 87)).heap.size from Nat.le_trans (Nat.le_trans hB HK6.out.size) HFE.out.size)
  refine wp_region_E [([10], fun w' => w'.cell? ⟨g, 3, none⟩ = some (.slice AG lg.length capG)), ([8], fun w' => w'.cell? ⟨w.heap.size, 1, none⟩ = some (.string uid))] (by kernel_rfl) ⟨fun _ => (HC6.out _ HFD.out).1, fun _ => (HC6.out _ HFD.out).2, trivial⟩ (fun hHeld => ?_)
  refine wpAnyE_take (i := 0) (v := ?_) rfl (by kernel_rfl) (by kernel_rfl) (by kernel_rfl) (by kernel_rfl) (fun _ _ _ h => h) (Or.inl ⟨by rfl, ?_⟩) hHeld (fun hHeld => ?_)
  rotate_left
  · (intro w hSw; (try dsimp only at hSw); (try simp only [List.getElem_toArray, List.getElem_cons_succ, List.getElem_cons_zero]); go_simp; try with_reducible rfl)
  try simp only [List.getElem_toArray, List.getElem_cons_succ, List.getElem_cons_zero, Act.put, List.setIfInBounds_toArray, List.set_cons_zero, List.set_cons_succ]
  refine wpAnyE_take (i := 1) (v := ?_) rfl (by kernel_rfl) (by kernel_rfl) (by kernel_rfl) (by kernel_rfl) (fun _ _ _ h => h) (Or.inl ⟨by rfl, ?_⟩) hHeld (fun hHeld => ?_)
  rotate_left
  · (intro w hSw; (try dsimp only at hSw); (try simp only [List.getElem_toArray, List.getElem_cons_succ, List.getElem_cons_zero]); go_simp; try with_reducible rfl)
  try simp only [List.getElem_toArray, List.getElem_cons_succ, List.getElem_cons_zero, Act.put, List.setIfInBounds_toArray, List.set_cons_zero, List.set_cons_succ]
  refine wpAnyE_take (i := 2) (v := ?_) rfl (by kernel_rfl) (by kernel_rfl) (by kernel_rfl) (by kernel_rfl) (fun _ _ _ h => h) (Or.inl ⟨by rfl, ?_⟩) hHeld (fun hHeld => ?_)
  rotate_left
  · (intro w hSw; (try dsimp only at hSw); (try simp only [List.getElem_toArray, List.getElem_cons_succ, List.getElem_cons_zero]); go_simp; try with_reducible rfl)
  try simp only [List.getElem_toArray, List.getElem_cons_succ, List.getElem_cons_zero, Act.put, List.setIfInBounds_toArray, List.set_cons_zero, List.set_cons_succ]
  refine wpAnyE_take (i := 3) (v := ?_) rfl (by kernel_rfl) (by kernel_rfl) (by kernel_rfl) (by kernel_rfl) (fun _ _ _ h => h) (Or.inl ⟨by rfl, ?_⟩) hHeld (fun hHeld => ?_)
  rotate_left
  · (intro w hSw; (try dsimp only at hSw); (try simp only [List.getElem_toArray, List.getElem_cons_succ, List.getElem_cons_zero]); go_simp; try with_reducible rfl)
  try simp only [List.getElem_toArray, List.getElem_cons_succ, List.getElem_cons_zero, Act.put, List.setIfInBounds_toArray, List.set_cons_zero, List.set_cons_succ]
  refine wpAnyE_load (i := 4) _ _ (v := ?_) rfl (by kernel_rfl) List.mem_cons_self (by kernel_rfl) (by kernel_rfl) (by kernel_rfl) (by kernel_rfl) (fun _ _ _ h => h) (Or.inl ⟨by rfl, ?_⟩) hHeld (fun hHeld => ?_)
  rotate_left
  · (intro w hSw; (try dsimp only at hSw); (try simp only [List.getElem_toArray, List.getElem_cons_succ, List.getElem_cons_zero]); go_simp; try with_reducible rfl)
  try simp only [List.getElem_toArray, List.getElem_cons_succ, List.getElem_cons_zero, Act.put, List.setIfInBounds_toArray, List.set_cons_zero, List.set_cons_succ]
  refine wpAnyE_take (i := 5) (v := ?_) rfl (by kernel_rfl) (by kernel_rfl) (by kernel_rfl) (by kernel_rfl) (fun _ _ _ h => h) (Or.inl ⟨by rfl, ?_⟩) hHeld (fun hHeld => ?_)
  rotate_left
  · (intro w hSw; (try dsimp only at hSw); (try simp only [List.getElem_toArray, List.getElem_cons_succ, List.getElem_cons_zero]); go_simp; try with_reducible rfl)
  try simp only [List.getElem_toArray, List.getElem_cons_succ, List.getElem_cons_zero, Act.put, List.setIfInBounds_toArray, List.set_cons_zero, List.set_cons_succ]
  refine wpAnyE_take (i := 6) (v := ?_) rfl (by kernel_rfl) (by kernel_rfl) (by kernel_rfl) (by kernel_rfl) (fun _ _ _ h => h) (Or.inl ⟨by rfl, ?_⟩) hHeld (fun hHeld => ?_)
  rotate_left
  · (intro w hSw; (try dsimp only at hSw); (try simp only [List.getElem_toArray, List.getElem_cons_succ, List.getElem_cons_zero]); go_simp; try with_reducible rfl)
  try simp only [List.getElem_toArray, List.getElem_cons_succ, List.getElem_cons_zero, Act.put, List.setIfInBounds_toArray, List.set_cons_zero, List.set_cons_succ]
  refine wpAnyE_load (i := 7) _ _ (v := ?_) rfl (by kernel_rfl) (List.mem_cons_of_mem _ List.mem_cons_self) (by kernel_rfl) (by kernel_rfl) (by kernel_rfl) (by kernel_rfl) (fun _ _ _ h => h) (Or.inl ⟨by rfl, ?_⟩) hHeld (fun hHeld => ?_)
  rotate_left
  · (intro w hSw; (try dsimp only at hSw); (try simp only [List.getElem_toArray, List.getElem_cons_succ, List.getElem_cons_zero]); go_simp; try with_reducible rfl)
  try simp only [List.getElem_toArray, List.getElem_cons_succ, List.getElem_cons_zero, Act.put, List.setIfInBounds_toArray, List.set_cons_zero, List.set_cons_succ]
  refine wpAnyE_ready (rs := [8]) (by kernel_rfl) (by simp) (AllE.cons rfl (fun K hK => ?_) AllE.nil)
  clear hHeld
  go_simp
  refine hK.out _ _ ⟨fun _ => (HC6.out _ HFD.out).1, (fun e => absurd e (Bool.eq_false_iff.1 (by kernel_rfl))), trivial⟩ (fun hHeld => ?_)
  clear hK K
  try simp only [List.getElem_toArray, List.getElem_cons_succ, List.getElem_cons_zero, Act.put, List.setIfInBounds_toArray, List.set_cons_zero, List.set_cons_succ]
  refine wpAnyE_ready (rs := [9]) (by kernel_rfl) (by simp) (AllE.cons rfl (fun K hK => ?_) AllE.nil)
  clear hHeld
  go_simp
  refine hK.out _ _ ⟨fun _ => (HC6.out _ HFE.out).1, (fun e => absurd e (Bool.eq_false_iff.1 (by kernel_rfl))), trivial⟩ (fun hHeld => ?_)
  clear hK K
  try simp only [List.getElem_toArray, List.getElem_cons_succ, List.getElem_cons_zero, Act.put, List.setIfInBounds_toArray, List.set_cons_zero, List.set_cons_succ]
  refine wpAnyE_ready (rs := [10]) (by kernel_rfl) (by simp) (AllE.cons rfl (fun K hK => ?_) AllE.nil)
  clear hHeld
  refine step_append_lies _ rfl (.tmp 90) (.tmp 95) 75 rfl B 87 j0 _ 2 24 Try.underlying75 hj hy0 hy1 hy2 rfl (by decide) _ lg.length _ rfl (own_below HR6.out HFE.out) ⟨W6.heap.size, 0, none⟩ 1 1 [.int .i64 tok, .string uid] rfl rfl (World.news_of_block HN7.out) (by simp [Value.oneCell']) (by decide) (by unfold maxLen; omega) (by omega) HBS.out _ rfl ?_
  intro g7 cap7 W7 hown hgr _ _
  have HR7 := Lib.hid hown
  have HG7 := Lib.hid (blk_row (HG6.out.below HFE.out HG6.out.lt) (own_below HR6.out HFE.out) (by decide) hgr)
  have HX7 := Lib.hid (blk_row (HX6.out.below HFE.out HX6.out.lt) (own_below HR6.out HFE.out) (by decide) hgr)
  have HL7 := Lib.hid (row_past (own_below HL6.out HFE.out) (own_below HR6.out HFE.out) (by decide) hgr)
  have HK7 := Lib.hid ((HK6.out.drew.alloc hB (.cells #[.int .i64 tok, .string uid] 87)).grown HBS.out (own_below HR6.out HFE.out) (.inr rfl) hgr)
  have e3 : W7.cell? ⟨g, 3, none⟩ = some (.slice AG lg.length capG) := HG7.out.cell 3
  have ef3 := HG7.out.frozen 3
  clear hown hgr
  refine hK.out _ _ ⟨(fun e => absurd e (Bool.eq_false_iff.1 (by kernel_rfl))), (fun e => absurd e (Bool.eq_false_iff.1 (by kernel_rfl))), trivial⟩ (fun hHeld => ?_)
  clear hK K
  try simp only [List.getElem_toArray, List.getElem_cons_succ, List.getElem_cons_zero, Act.put, List.setIfInBounds_toArray, List.set_cons_zero, List.set_cons_succ]
  refine wpAnyE_take (i := 11) (v := ?_) rfl (by kernel_rfl) (by kernel_rfl) (by kernel_rfl) (by kernel_rfl) (fun _ _ _ h => h) (Or.inl ⟨by rfl, ?_⟩) hHeld (fun hHeld => ?_)
  rotate_left
  · (intro w hSw; (try dsimp only at hSw); (try simp only [List.getElem_toArray, List.getElem_cons_succ, List.getElem_cons_zero]); go_simp; try with_reducible rfl)
  try simp only [List.getElem_toArray, List.getElem_cons_succ, List.getElem_cons_zero, Act.put, List.setIfInBounds_toArray, List.set_cons_zero, List.set_cons_succ]
  refine wpAnyE_take (i := 12) (v := ?_) rfl (by kernel_rfl) (by kernel_rfl) (by kernel_rfl) (by kernel_rfl) (fun _ _ _ h => h) (Or.inl ⟨by rfl, ?_⟩) hHeld (fun hHeld => ?_)
  rotate_left
  · (intro w hSw; (try dsimp only at hSw); (try simp only [List.getElem_toArray, List.getElem_cons_succ, List.getElem_cons_zero]); go_simp; try with_reducible rfl)
  try simp only [List.getElem_toArray, List.getElem_cons_succ, List.getElem_cons_zero, Act.put, List.setIfInBounds_toArray, List.set_cons_zero, List.set_cons_succ]
  refine wpAnyE_ready (rs := [13]) (by kernel_rfl) (by simp) (AllE.cons rfl (fun K hK => ?_) AllE.nil)
  clear hHeld
  go_simp
  refine hK.out _ _ ⟨(fun e => absurd e (Bool.eq_false_iff.1 (by kernel_rfl))), (fun e => absurd e (Bool.eq_false_iff.1 (by kernel_rfl))), trivial⟩ (fun hHeld => ?_)
  clear hK K
  try simp only [List.getElem_toArray, List.getElem_cons_succ, List.getElem_cons_zero, Act.put, List.setIfInBounds_toArray, List.set_cons_zero, List.set_cons_succ]
  refine wpAnyE_done (by kernel_rfl) (only_normal ?_) _
  obtain ⟨W8, hW8⟩ : ∃ W8, W7.setCell ⟨g, 3, none⟩ (.slice (some ⟨g7, 0, none⟩) (lg.length + 1) cap7) = W8 := ⟨_, rfl⟩
  have HG8 := Lib.hid (show Blk W8 g 77 #[.int .i64 cd, .int .i64 lm, (.slice A5 (q + (n - (q + 1))) cap5), (.slice (some ⟨g7, 0, none⟩) (lg.length + 1) cap7), .int .i64 la, .int .i64 hor] from hW8 ▸ HG7.out.set_ 3 (.slice (some ⟨g7, 0, none⟩) (lg.length + 1) cap7))
  have HL8 := Lib.hid (show W8.ownsRow WA.heap.size 62 4 (.slice A5 (q + (n - (q + 1))) cap5) (q + (n - (q + 1))) _ from hW8 ▸ own_keep HL7.out (fun j hj => Below.heap_setCell W7 ⟨g, 3, none⟩ _ j (row_ne HL7.out HG7.out (by decide) j hj)))
  have HR8 := Lib.hid (show W8.ownsRow B 87 2 (.slice (some ⟨g7, 0, none⟩) (lg.length + 1) cap7) (lg.length + 1) _ from hW8 ▸ own_keep HR7.out (fun j hj => Below.heap_setCell W7 ⟨g, 3, none⟩ _ j (row_ne HR7.out HG7.out (by decide) j hj)))
  have HK8 := Lib.hid (show Kc RT B w W8 from hW8 ▸ HK7.out.set HG7.out (.inl rfl) HBG.out 3 (.slice (some ⟨g7, 0, none⟩) (lg.length + 1) cap7))
  try rw [hW8]
  have k1 : W8.cell? ⟨g, 1, none⟩ = some (.int .i64 lm) := HG8.out.cell 1
  have k3 : W8.cell? ⟨g, 3, none⟩ = some (.slice (some ⟨g7, 0, none⟩) (lg.length + 1) cap7) := HG8.out.cell 3
  have k4 : W8.cell? ⟨g, 4, none⟩ = some (.int .i64 la) := HG8.out.cell 4
  have kf4 := HG8.out.frozen 4
  have hfi : ¬ lm < ((lg.length + 1 : Nat) : Int) := by omega
  go_wp2_with fail
  go_quiet (fail)
  go_wp2
  go_ret
  rw [ry_no (by omega)]
  exact ⟨rfl, rc_fin (R := ⟨rRow L true uid card tok, lg ++ [(tok, uid)], cd, lm, tok, hor⟩) (HG8.out.drewN _) (own_below HL8.out (kx_drewN (Below.refl _ _) _)) (Nat.le_trans hB HBA.out.size) (own_below HR8.out (kx_drewN (Below.refl _ _) _)) (HK8.out.drewN _) HBG.out rfl rfl rfl (by show (rRow L true uid card tok).length = _; rw [rr_len HQ.out HQQ.out (by have := HNL.out; omega), HNL.out]; rfl) (by show itsC (itsK (rRow L true uid card tok)) = _; rw [rr_its HQ.out HQQ.out]; first | rfl | (simp only [if_true, List.append_nil]; done)) (by simp) (chC_snoc _ _)⟩
end Go.Proofs.Ythcjbljkokflgaa
