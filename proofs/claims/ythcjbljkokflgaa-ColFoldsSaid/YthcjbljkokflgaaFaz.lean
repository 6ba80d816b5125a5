/- Page of the program alone; a collection with the document's as a ghost. -/
import Derived.Test.YthcjbljkokflgaaFay
import Derived.Deep.RegionHeld3
import Derived.Deep.DrawnRows
set_option linter.unnecessarySimpa false
/- henkeep.Fold: an item folded into cards that rise by UID. -/
namespace Go.Proofs.Ythcjbljkokflgaa
open Go.RowKit
open Go.Lib
set_option linter.unusedVariables false
set_option linter.unusedSimpArgs false
set_option maxRecDepth 100000
def foldK (L : LK) (x : It) : LK := if x.x = true then delL x.u L else insL x.u (x.v, x.c) L
def stF (x : It) (s : LK × Bool) (p : ByteArray × (Int × ByteArray)) : LK × Bool := if p.1 = x.u then s else if (!s.2 && klt x.u p.1) = true then (s.1 ++ [(x.u, (x.v, x.c)), p], true) else (s.1 ++ [p], s.2)
def finF (x : It) (s : LK × Bool) : LK := if s.2 = true then s.1 else s.1 ++ [(x.u, (x.v, x.c))]
theorem stF_done (x : It) : ∀ (L acc : LK), L.foldl (stF x) (acc, true) = (acc ++ delL x.u L, true)
  | [], acc => by simp [delL]
  | p :: L, acc => by
    rw [List.foldl_cons]
    by_cases e : p.1 = x.u
    · have h : stF x (acc, true) p = (acc, true) := by unfold stF; rw [if_pos e]
      rw [h, stF_done x L acc]
      unfold delL
      rw [List.filter_cons_of_neg (by simp [e])]
    · have h : stF x (acc, true) p = (acc ++ [p], true) := by unfold stF; rw [if_neg e]; simp
      rw [h, stF_done x L _]
      unfold delL
      rw [List.filter_cons_of_pos (by simpa using e), List.append_assoc]; rfl
theorem insL_gt {u : ByteArray} {v : Int × ByteArray} : ∀ {L : LK}, (∀ p ∈ L, klt u p.1 = true) → insL u v L = (u, v) :: L
  | [], _ => rfl
  | p :: L, h => by unfold insL; rw [if_pos (h p List.mem_cons_self)]
theorem stF_open (x : It) : ∀ (L : LK) (acc : LK), Srt L → finF x (L.foldl (stF x) (acc, false)) = acc ++ insL x.u (x.v, x.c) L
  | [], acc, _ => rfl
  | p :: L, acc, hs => by
    obtain ⟨h1, h2⟩ := List.pairwise_cons.1 hs
    rw [List.foldl_cons]
    by_cases e : p.1 = x.u
    · have h : stF x (acc, false) p = (acc, false) := by unfold stF; rw [if_pos e]
      rw [h, stF_open x L acc h2, insL_gt (fun q hq => by rw [← e]; exact h1 q hq)]
      unfold insL
      rw [if_neg (by rw [e, klt_irr]; decide), if_pos e.symm]
    · by_cases g : klt x.u p.1 = true
      · have h : stF x (acc, false) p = (acc ++ [(x.u, (x.v, x.c)), p], true) := by unfold stF; rw [if_neg e, g]; rfl
        rw [h, stF_done]
        unfold finF
        rw [if_pos rfl, delL_id (fun a ha e2 => by have := klt_trans g (h1 a ha); rw [e2, klt_irr] at this; cases this)]
        unfold insL
        rw [if_pos g, List.append_assoc]; rfl
      · have h : stF x (acc, false) p = (acc ++ [p], false) := by unfold stF; rw [if_neg e, Bool.eq_false_iff.2 g]; rfl
        rw [h, stF_open x L _ h2]
        conv => rhs; unfold insL
        rw [if_neg g, if_neg (fun e2 => e e2.symm), List.append_assoc]; rfl
theorem foldK_eq {L : LK} (hs : Srt L) (x : It) : (if x.x = true then (L.foldl (stF x) ([], true)).1 else finF x (L.foldl (stF x) ([], false))) = foldK L x := by
  unfold foldK
  by_cases e : x.x = true
  · rw [if_pos e, if_pos e, stF_done]; rfl
  · rw [if_neg e, if_neg e, stF_open x L [] hs]; rfl
theorem foldK_srt {L : LK} (hs : Srt L) (x : It) : Srt (foldK L x) := by
  unfold foldK
  split
  · exact hs.del _
  · exact hs.ins
theorem foldK_get {L : LK} (hs : Srt L) (x : It) (u : ByteArray) : getL u (foldK L x) = foldH (fun u => getL u L) x u := by
  unfold foldK foldH
  by_cases e : x.x = true
  · rw [if_pos e, getL_del, if_pos e]
  · rw [if_neg e, getL_ins hs, if_neg e]
theorem foldK_len {L : LK} (hs : Srt L) (x : It) : (foldK L x).length ≤ L.length + 1 := by
  unfold foldK
  split
  · have := delL_len (k := x.u) hs; omega
  · rw [insL_len hs]; split <;> omega
theorem stF_len (x : It) : ∀ (L : LK) (s : LK × Bool), (L.foldl (stF x) s).1.length + (if (L.foldl (stF x) s).2 = true then 0 else 1) ≤ s.1.length + L.length + (if s.2 = true then 0 else 1)
  | [], s => by
    simp only [List.foldl_nil, List.length_nil, Nat.add_zero]
    exact Nat.le_refl _
  | p :: L, s => by
    have ih := stF_len x L (stF x s p)
    rw [List.foldl_cons]
    refine Nat.le_trans ih ?_
    rw [List.length_cons]
    obtain ⟨a, d⟩ := s
    unfold stF
    by_cases e : p.1 = x.u
    · rw [if_pos e]; omega
    · rw [if_neg e]
      cases d with
      | true => simp; omega
      | false =>
        by_cases g : klt x.u p.1 = true
        · rw [g]; simp; omega
        · rw [Bool.eq_false_iff.2 g]; simp; omega
set_option maxHeartbeats 16000000 in
theorem hfold_any {w : World} {A : Option Addr} {len cap b off : Nat} {L : LK} (h : Its w A len cap b off (itsK L)) (hs : Srt L) (hn : len ≤ 10000) (x : It) : Calls Try.prog 38 #[.slice A len cap, .agg #[.string x.u, .int .i64 x.v, .bool x.x, .string x.c]] w fun e w' => ∃ U, e = .returned U ∧ w'.ownsRow w.heap.size 62 4 U (foldK L x).length (itsC (itsK (foldK L x))) ∧ Below w.heap.size w w' := by
  obtain ⟨i0, hi, hz0, hz1, hz2⟩ := info_parts infoIt
  obtain ⟨xu, xv, xx, xc⟩ := x
  simp only
  obtain ⟨WA, hWA⟩ : ∃ WA, w.alloc (.cells #[.string xu, .int .i64 xv, .bool xx, .string xc] 62) = WA := ⟨_, rfl⟩
  have HBA := Lib.hid (show Below w.heap.size w WA from hWA ▸ (Below.refl _ w).alloc (Nat.le_refl _) _)
  have HXA := Lib.hid (show Blk WA w.heap.size 62 #[.string xu, .int .i64 xv, .bool xx, .string xc] from hWA ▸ Blk.new w _ _)
  have hlen : L.length = len := by have := h.hlen; rwa [itsK_len] at this
  have HLE := Lib.hid hlen
  have hlc := h.le
  have HI := Lib.hid (h.below HBA.out (fun e => (h.addr e).2))
  have HEQ := Lib.hid (foldK_eq hs ⟨xu, xv, xx, xc⟩)
  have HSL := Lib.hid (fun q => stF_len ⟨xu, xv, xx, xc⟩ (L.take q) ([], xx))
  have hnI : (len : Int) ≤ 10000 := by omega
  have x2 := HXA.out.cell 2
  simp only [List.getElem?_toArray, List.getElem?_cons_zero, List.getElem?_cons_succ] at x2
  clear h hs hlen
  go_enter Try.func38, Try.ntmps38
  go_wp2_with fail
  try rw [hWA]
  go_loopw [5, 6, 7] (fun V dn i wr => ∃ (q : Nat) (s : LK × Bool), q ≤ len ∧ i = .int .i64 (q : Int) ∧ (L.take q).foldl (stF ⟨xu, xv, xx, xc⟩) ([], xx) = s ∧ dn = .bool s.2 ∧ wr.ownsRow WA.heap.size 62 4 V s.1.length (itsC (itsK s.1)) ∧ Below WA.heap.size WA wr) (fun _ _ i _ => len - (intOf i).toNat)
  case atStart => exact ⟨0, ([], xx), Nat.zero_le _, rfl, rfl, rfl, World.ownsRow_nil _ _ _ _, Below.refl _ _⟩
  case round =>
    obtain ⟨q, s, hq, rfl, hst, rfl, hro, hb⟩ := hrel
    have HRO := Lib.hid hro
    have HB := Lib.hid hb
    have HX := Lib.hid (HXA.out.below hb HXA.out.lt)
    have hsl := HSL.out q
    rw [hst] at hsl
    have HST := Lib.hid hst
    obtain ⟨acc, dn⟩ := s
    simp only at hsl HRO ⊢
    have hal : acc.length ≤ 10001 := by
      have h1 : (L.take q).length ≤ len := by rw [List.length_take, HLE.out]; omega
      have h2 : (if xx = true then 0 else 1) ≤ 1 := by split <;> omega
      simp only [List.length_nil, Nat.zero_add] at hsl
      omega
    obtain ⟨n, hnl⟩ : ∃ n, acc.length = n := ⟨_, rfl⟩
    rw [hnl] at HRO hal
    have HNL := Lib.hid hnl
    have HDN := Lib.hid (show dn = false → xx = false from fun e => by
      cases xx with
      | false => rfl
      | true => rw [stF_done] at hst; rw [e] at hst; cases hst)
    clear hro hb hst hsl hnl x2
    by_cases hql : q < len
    · obtain ⟨p, hp⟩ : ∃ p, L[q]? = some p := ⟨L[q]'(by rw [HLE.out]; exact hql), List.getElem?_eq_getElem _⟩
      obtain ⟨rfl, hbl⟩ := HI.out.addr (by omega)
      have HTK := Lib.hid (show (L.take (q + 1)).foldl (stF ⟨xu, xv, xx, xc⟩) ([], xx) = stF ⟨xu, xv, xx, xc⟩ (acc, dn) p by rw [List.take_add_one, hp, List.foldl_append, HST.out]; rfl)
      have HPC := Lib.hid (fun (W : World) (hb : Below WA.heap.size WA W) => (HI.out.below hb (fun _ => hbl)).cell q _ (itsK_get hp))
      have hqI : (q : Int) < (len : Int) := by omega
      have hqc : q < cap := by omega
      obtain ⟨pu, pv, pc⟩ := p
      simp only at HPC HTK
      obtain ⟨c0, c1, c2, c3⟩ := HPC.out wr HB.out
      have x0 := HX.out.cell 0
      simp only [List.getElem?_toArray, List.getElem?_cons_zero, List.getElem?_cons_succ] at x0
      clear hp
      by_cases he : pu = xu
      · have he2 : (pu.toList == xu.toList) = true := by rw [he]; simp
        have HTS := Lib.hid (show (L.take (q + 1)).foldl (stF ⟨xu, xv, xx, xc⟩) ([], xx) = (acc, dn) by rw [HTK.out]; unfold stF; rw [if_pos he])
        go_wp2_with fail
        go_quiet (fail)
        go_wp2
        go_roundw
        case rel => exact ⟨q + 1, (acc, dn), by omega, by go_num, HTS.out, rfl, by rw [HNL.out]; exact own_keep HRO.out (fun _ _ => rfl), below_drewN HB.out _⟩
        case measure => (simp [intOf] <;> omega)
      · have he2 : (pu.toList == xu.toList) = false := by rw [keq]; exact decide_eq_false he
        go_wp2_with fail
        go_quiet (fail)
        obtain ⟨w5, hw5⟩ : ∃ W, wr.drewN nq = W := ⟨_, rfl⟩
        have HB5 := Lib.hid (show Below WA.heap.size WA w5 from hw5 ▸ below_drewN HB.out nq)
        have HR5 := Lib.hid (own_keep (w' := w5) HRO.out (fun j hj => by rw [← hw5]; rfl))
        rw [hw5]
        obtain ⟨A1, cap1, g1, rfl, -, -⟩ := sk_row HR5.out
        clear c0 c1 c2 c3 x0
        obtain ⟨c0, c1, c2, c3⟩ := HPC.out w5 HB5.out
        have HX5 := Lib.hid (HXA.out.below HB5.out HXA.out.lt)
        have x0 := HX5.out.cell 0
        simp only [List.getElem?_toArray, List.getElem?_cons_zero, List.getElem?_cons_succ] at x0
        have HMX9 := Lib.hid (show n + 1 ≤ maxLen ∧ (n + 1) * 48 ≤ 140737488355328 from ⟨by unfold maxLen; omega, by omega⟩)
        have HMY9 := Lib.hid (show n + 1 + 1 ≤ maxLen ∧ (n + 1 + 1) * 48 ≤ 140737488355328 from ⟨by unfold maxLen; omega, by omega⟩)
        cases dn with
        | true =>
          have HTS := Lib.hid (show (L.take (q + 1)).foldl (stF ⟨xu, xv, xx, xc⟩) ([], xx) = (acc ++ [(pu, (pv, pc))], true) by rw [HTK.out]; unfold stF; rw [if_neg he]; rfl)
          go_wp2_with fail
          go_quiet (fail)
          obtain ⟨w6, hw6⟩ : ∃ W, w5.drewN nq = W := ⟨_, rfl⟩
          have HB6 := Lib.hid (show Below WA.heap.size WA w6 from hw6 ▸ below_drewN HB5.out nq)
          have HR6 := Lib.hid (show w6.ownsRow WA.heap.size 62 4 (.slice A1 n cap1) n (itsC (itsK acc)) from own_keep (w' := w6) HR5.out (fun j hj => by rw [← hw6]; rfl))
          rw [hw6]
          clear c0 c1 c2 c3 x0
          obtain ⟨c0, c1, c2, c3⟩ := HPC.out w6 HB6.out
          have HN9 := Lib.hid (Blk.new w6 62 #[.string pu, .int .i64 pv, .bool false, .string pc])
          have HA9 := Lib.hid (HB6.out.alloc HB6.out.size (.cells #[.string pu, .int .i64 pv, .bool false, .string pc] 62))
          go_wp2_with (first
            | (at_builtin
               refine wpList_append_own _ rfl (.tmp 40) (.tmp 45) 40 rfl WA.heap.size 62 i0 _ 4 48 Try.underlying40 hi hz0 hz1 hz2 rfl (by decide) (.slice A1 n cap1) n _ rfl (HR6.out.alloc _) ⟨w6.heap.size, 0, none⟩ 1 1 [Value.string pu, Value.int .i64 pv, Value.bool false, Value.string pc] rfl rfl (World.news_of_block HN9.out) (by simp [Value.oneCell']) HMX9.out.1 HMX9.out.2 HA9.out.size ?_
               intro v9 w9 hown hgr _
               have HO9 := Lib.hid hown
               have HB9 := Lib.hid (HA9.out.grown hgr HA9.out.size (fun k e => (HR6.out.lt k e).1))
               clear hown hgr)
            | fail)
          go_roundw
          case rel => exact ⟨q + 1, (acc ++ [(pu, (pv, pc))], true), by omega, by go_num, HTS.out, rfl, by rw [List.length_append, HNL.out]; unfold itsK; rw [List.map_append, itsC_append]; exact HO9.out, HB9.out⟩
          case measure => (simp [intOf] <;> omega)
        | false =>
          by_cases hg : klt xu pu = true
          · have v3 : Op.bytesLess xu.toList pu.toList = true := hg
            have v4 : Op.bytesLess pu.toList xu.toList = false := klt_asym hg
            have HTS := Lib.hid (show (L.take (q + 1)).foldl (stF ⟨xu, xv, xx, xc⟩) ([], xx) = (acc ++ [(xu, (xv, xc)), (pu, (pv, pc))], true) by rw [HTK.out]; unfold stF; rw [if_neg he]; simp only; rw [hg]; rfl)
            obtain rfl : xx = false := HDN.out rfl
            go_wp2_with fail
            go_quiet (fail)
            obtain ⟨w6, hw6⟩ : ∃ W, w5.drewN nq = W := ⟨_, rfl⟩
            have HB6 := Lib.hid (show Below WA.heap.size WA w6 from hw6 ▸ below_drewN HB5.out nq)
            have HR6 := Lib.hid (show w6.ownsRow WA.heap.size 62 4 (.slice A1 n cap1) n (itsC (itsK acc)) from own_keep (w' := w6) HR5.out (fun j hj => by rw [← hw6]; rfl))
            rw [hw6]
            clear c0 c1 c2 c3 x0
            have HX6 := Lib.hid (HXA.out.below HB6.out HXA.out.lt)
            have x0 := HX6.out.cell 0
            have x1 := HX6.out.cell 1
            have x2 := HX6.out.cell 2
            have x3 := HX6.out.cell 3
            simp only [List.getElem?_toArray, List.getElem?_cons_zero, List.getElem?_cons_succ] at x0 x1 x2 x3
            have HN8 := Lib.hid (Blk.new w6 62 #[.string xu, .int .i64 xv, .bool false, .string xc])
            have HA8 := Lib.hid (HB6.out.alloc HB6.out.size (.cells #[.string xu, .int .i64 xv, .bool false, .string xc] 62))
            go_wp2_with (first
              | (at_builtin
                 refine wpList_append_own _ rfl (.tmp 36) (.tmp 38) 40 rfl WA.heap.size 62 i0 _ 4 48 Try.underlying40 hi hz0 hz1 hz2 rfl (by decide) (.slice A1 n cap1) n _ rfl (HR6.out.alloc _) ⟨w6.heap.size, 0, none⟩ 1 1 [Value.string xu, Value.int .i64 xv, Value.bool false, Value.string xc] rfl rfl (World.news_of_block HN8.out) (by simp [Value.oneCell']) HMX9.out.1 HMX9.out.2 HA8.out.size ?_
                 intro v8 w8 hown hgr _
                 obtain ⟨A8, cap8, _, rfl, _, _⟩ := sk_row hown
                 have HR8 := Lib.hid hown
                 have HB8 := Lib.hid (HA8.out.grown hgr HA8.out.size (fun k e => (HR6.out.lt k e).1))
                 clear hown hgr
                 obtain ⟨c0, c1, c2, c3⟩ := HPC.out w8 HB8.out
                 have HN9 := Lib.hid (Blk.new w8 62 #[.string pu, .int .i64 pv, .bool false, .string pc])
                 have HA9 := Lib.hid (HB8.out.alloc HB8.out.size (.cells #[.string pu, .int .i64 pv, .bool false, .string pc] 62)))
              | (at_builtin
                 refine wpList_append_own _ rfl (.tmp 40) (.tmp 45) 40 rfl WA.heap.size 62 i0 _ 4 48 Try.underlying40 hi hz0 hz1 hz2 rfl (by decide) (.slice A8 (n + 1) cap8) (n + 1) _ rfl (HR8.out.alloc _) ⟨w8.heap.size, 0, none⟩ 1 1 [Value.string pu, Value.int .i64 pv, Value.bool false, Value.string pc] rfl rfl (World.news_of_block HN9.out) (by simp [Value.oneCell']) HMY9.out.1 HMY9.out.2 HA9.out.size ?_
                 intro v9 w9 hown hgr _
                 have HO9 := Lib.hid hown
                 have HB9 := Lib.hid (HA9.out.grown hgr HA9.out.size (fun k e => (HR8.out.lt k e).1))
                 clear hown hgr)
              | fail)
            go_roundw
            case rel => exact ⟨q + 1, (acc ++ [(xu, (xv, xc)), (pu, (pv, pc))], true), by omega, by go_num, HTS.out, rfl, by
              have e : itsC (itsK (acc ++ [(xu, (xv, xc)), (pu, (pv, pc))])) = (itsC (itsK acc) ++ [Value.string xu, Value.int .i64 xv, Value.bool false, Value.string xc]) ++ [Value.string pu, Value.int .i64 pv, Value.bool false, Value.string pc] := by
                unfold itsK; rw [List.map_append, itsC_append, List.append_assoc]; rfl
              rw [e, List.length_append, HNL.out]; exact HO9.out, HB9.out⟩
            case measure => (simp [intOf] <;> omega)
          · have v3 : Op.bytesLess xu.toList pu.toList = false := Bool.eq_false_iff.2 hg
            have v4 : Op.bytesLess pu.toList xu.toList = true := (klt_total he).resolve_right hg
            have HTS := Lib.hid (show (L.take (q + 1)).foldl (stF ⟨xu, xv, xx, xc⟩) ([], xx) = (acc ++ [(pu, (pv, pc))], false) by rw [HTK.out]; unfold stF; rw [if_neg he]; simp only; rw [Bool.eq_false_iff.2 hg]; rfl)
            go_wp2_with fail
            go_quiet (fail)
            obtain ⟨w6, hw6⟩ : ∃ W, w5.drewN nq = W := ⟨_, rfl⟩
            have HB6 := Lib.hid (show Below WA.heap.size WA w6 from hw6 ▸ below_drewN HB5.out nq)
            have HR6 := Lib.hid (show w6.ownsRow WA.heap.size 62 4 (.slice A1 n cap1) n (itsC (itsK acc)) from own_keep (w' := w6) HR5.out (fun j hj => by rw [← hw6]; rfl))
            rw [hw6]
            clear c0 c1 c2 c3 x0
            obtain ⟨c0, c1, c2, c3⟩ := HPC.out w6 HB6.out
            have HN9 := Lib.hid (Blk.new w6 62 #[.string pu, .int .i64 pv, .bool false, .string pc])
            have HA9 := Lib.hid (HB6.out.alloc HB6.out.size (.cells #[.string pu, .int .i64 pv, .bool false, .string pc] 62))
            go_wp2_with (first
              | (at_builtin
                 refine wpList_append_own _ rfl (.tmp 40) (.tmp 45) 40 rfl WA.heap.size 62 i0 _ 4 48 Try.underlying40 hi hz0 hz1 hz2 rfl (by decide) (.slice A1 n cap1) n _ rfl (HR6.out.alloc _) ⟨w6.heap.size, 0, none⟩ 1 1 [Value.string pu, Value.int .i64 pv, Value.bool false, Value.string pc] rfl rfl (World.news_of_block HN9.out) (by simp [Value.oneCell']) HMX9.out.1 HMX9.out.2 HA9.out.size ?_
                 intro v9 w9 hown hgr _
                 have HO9 := Lib.hid hown
                 have HB9 := Lib.hid (HA9.out.grown hgr HA9.out.size (fun k e => (HR6.out.lt k e).1))
                 clear hown hgr)
              | fail)
            go_roundw
            case rel => exact ⟨q + 1, (acc ++ [(pu, (pv, pc))], false), by omega, by go_num, HTS.out, rfl, by rw [List.length_append, HNL.out]; unfold itsK; rw [List.map_append, itsC_append]; exact HO9.out, HB9.out⟩
            case measure => (simp [intOf] <;> omega)
    · obtain ⟨q, rfl⟩ : ∃ j, q = j := ⟨_, rfl⟩
      have hqn : ¬ (q : Int) < (len : Int) := by omega
      have HFU := Lib.hid (show L.foldl (stF ⟨xu, xv, xx, xc⟩) ([], xx) = (acc, dn) by have := HST.out; rwa [List.take_of_length_le (by have := HLE.out; omega)] at this)
      cases dn with
      | true =>
        have HFK := Lib.hid (show foldK L ⟨xu, xv, xx, xc⟩ = acc by
          rw [← HEQ.out]
          cases xx with
          | true => rw [if_pos rfl, HFU.out]
          | false => rw [if_neg (by decide), HFU.out]; rfl)
        go_wp2
        go_ret
        exact ⟨_, rfl, by rw [HFK.out, HNL.out]; exact own_base HRO.out HBA.out.size, HBA.out.trans (HB.out.mono HBA.out.size)⟩
      | false =>
        obtain rfl : xx = false := HDN.out rfl
        have HFK := Lib.hid (show foldK L ⟨xu, xv, false, xc⟩ = acc ++ [(xu, (xv, xc))] by
          rw [← HEQ.out, if_neg (by decide), HFU.out]; rfl)
        obtain ⟨A1, cap1, g1, rfl, -, -⟩ := sk_row HRO.out
        have x0 := HX.out.cell 0
        have x1 := HX.out.cell 1
        have x2 := HX.out.cell 2
        have x3 := HX.out.cell 3
        simp only [List.getElem?_toArray, List.getElem?_cons_zero, List.getElem?_cons_succ] at x0 x1 x2 x3
        have HN8 := Lib.hid (Blk.new wr 62 #[.string xu, .int .i64 xv, .bool false, .string xc])
        have HA8 := Lib.hid (HB.out.alloc HB.out.size (.cells #[.string xu, .int .i64 xv, .bool false, .string xc] 62))
        have HMX9 := Lib.hid (show n + 1 ≤ maxLen ∧ (n + 1) * 48 ≤ 140737488355328 from ⟨by unfold maxLen; omega, by omega⟩)
        go_wp2_with (first
          | (at_builtin
             refine wpList_append_own _ rfl (.tmp 49) (.tmp 51) 40 rfl WA.heap.size 62 i0 _ 4 48 Try.underlying40 hi hz0 hz1 hz2 rfl (by decide) (.slice A1 n cap1) n _ rfl (HRO.out.alloc _) ⟨wr.heap.size, 0, none⟩ 1 1 [Value.string xu, Value.int .i64 xv, Value.bool false, Value.string xc] rfl rfl (World.news_of_block HN8.out) (by simp [Value.oneCell']) HMX9.out.1 HMX9.out.2 HA8.out.size ?_
             intro v9 w9 hown hgr _
             have HO9 := Lib.hid hown
             have HB9 := Lib.hid (HA8.out.grown hgr HA8.out.size (fun k e => (HRO.out.lt k e).1))
             clear hown hgr)
          | fail)
        go_ret
        exact ⟨_, rfl, by
          rw [HFK.out, List.length_append, HNL.out]; unfold itsK; rw [List.map_append, itsC_append]; exact own_base HO9.out HBA.out.size, HBA.out.trans (HB9.out.mono HBA.out.size)⟩
end Go.Proofs.Ythcjbljkokflgaa
/- A copy that goes page by page: what a page leaves (maths). -/
namespace Go.Proofs.Ythcjbljkokflgaa
open Go.RowKit
open Go.Lib
open Go.Proofs.Sp
set_option linter.unusedVariables false
set_option linter.unusedSimpArgs false
set_option maxRecDepth 100000
/-- All that was told, folded: what the collection has. -/
theorem page_full {k : Nat} {c : Cs} {R : Rs} (hs : Sim c R) (hi : Inv k c) (hk : KV R.log R.L) {N : Int} (h0 : N ≠ 0) {ys : List It} (h : Sin c N ys) {H : HF} (ha : Agr R.log R.horizon R.L N H) (hh : R.horizon ≤ N) : ∀ u, (ys.foldl foldH H) u = getL u c.L := fun u => by
  obtain ⟨s1, s2⟩ := sin_last hs hi hk h0 h
  rw [foldH_on u ys H (fun t ht => (s1 t ht).2.2)]
  by_cases e : (ys.any fun t => decide (t.u = u)) = true
  · rw [if_pos e]
  · rw [if_neg e, ← hs.L]
    refine ha hh u (fun t ht => ?_)
    by_cases ht2 : N < t
    · exact absurd (s2 u t ht ht2) e
    · omega
theorem sin_mono {c : Cs} {N : Int} {ys : List It} (h : Sin c N ys) {i j : Nat} {a b : It} (hij : i ≤ j) (ha : ys[i]? = some a) (hb : ys[j]? = some b) : a.v ≤ b.v := by
  by_cases e : i = j
  · subst e; rw [ha] at hb; cases hb; exact Int.le_refl _
  · obtain ⟨h1, rfl⟩ := List.getElem?_eq_some_iff.1 ha
    obtain ⟨h2, rfl⟩ := List.getElem?_eq_some_iff.1 hb
    have := List.pairwise_iff_getElem.1 h.2 i j h1 h2 (by omega)
    rcases this with h3 | ⟨h3, _⟩ <;> omega
/-- A first part of it, folded: the copy agrees at the token of its end. -/
theorem page_cut {k : Nat} {c : Cs} {R : Rs} (hs : Sim c R) (hi : Inv k c) (hk : KV R.log R.L) {N : Int} (h0 : N ≠ 0) {ys : List It} (h : Sin c N ys) {H : HF} (ha : Agr R.log R.horizon R.L N H) (hh : R.horizon ≤ N) {most : Int} {n p : Nat} (hn : spl (ys.map It.v) most = n) (hnl : n < ys.length) (hp : n = p + 1) {t : It} (ht : ys[p]? = some t) : Agr R.log R.horizon R.L t.v ((ys.take n).foldl foldH H) ∧ N < t.v ∧ t.v ≤ R.latest := by
  obtain ⟨s1, s2⟩ := sin_last hs hi hk h0 h
  have htm := s1 t (List.mem_of_getElem? ht)
  refine ⟨fun _ u hu => ?_, htm.2.1, ?_⟩
  · rw [foldH_on u (ys.take n) H (fun i hi => (s1 i (List.mem_of_mem_take hi)).2.2)]
    by_cases e : ((ys.take n).any fun t => decide (t.u = u)) = true
    · rw [if_pos e, hs.L]
    · rw [if_neg e]
      refine ha hh u (fun s hl => ?_)
      by_cases hs2 : N < s
      · obtain ⟨i, hm, hiu⟩ := List.any_eq_true.1 (s2 u s hl hs2)
        have hiu : i.u = u := by simpa using hiu
        obtain ⟨j, hj⟩ := List.mem_iff_getElem?.1 hm
        have hv := (s1 i hm).1
        rw [hiu, hl] at hv
        cases hv
        by_cases hjn : j < n
        · exact absurd (List.any_eq_true.2 ⟨i, List.mem_of_getElem? (i := j) (by rw [List.getElem?_take, if_pos hjn]; exact hj), decide_eq_true hiu⟩) e
        · have h1 := hu _ hl
          have h2 := sin_mono h (show p ≤ j by omega) ht hj
          have h3 := spl_ne hn (by rw [List.length_map]; exact hnl) (show n ≤ j by omega) (show (ys.map It.v)[j]? = some i.v by rw [List.getElem?_map, hj]; rfl)
          rw [List.getD_eq_getElem?_getD, List.getElem?_map, hp, Nat.add_sub_cancel, ht] at h3
          have h4 : i.v ≠ t.v := h3
          omega
      · omega
  · have hl := htm.1
    unfold lastT at hl
    cases hf : R.log.reverse.find? fun c => decide (c.2 = t.u) with
    | none => rw [hf] at hl; cases hl
    | some x =>
      rw [hf] at hl
      have e : x.1 = t.v := by simpa using hl
      have := hs.sl x (List.mem_reverse.1 (List.mem_of_find?_eq_some hf))
      omega
/-- How many changes are still to come. -/
def remT (log : List Chg) (N : Int) : Nat := (log.filter fun c => decide (N < c.1)).length
theorem remT_lt {log : List Chg} {N M : Int} {u : ByteArray} (h : lastT log u = some M) (hN : N < M) : remT log M < remT log N := by
  unfold lastT at h
  cases hf : log.reverse.find? fun c => decide (c.2 = u) with
  | none => rw [hf] at h; cases h
  | some x =>
    rw [hf] at h
    have e : x.1 = M := by simpa using h
    have hm : x ∈ log := List.mem_reverse.1 (List.mem_of_find?_eq_some hf)
    obtain ⟨A, B, rfl⟩ := List.append_of_mem hm
    have key : ∀ l : List Chg, (l.filter fun c => decide (M < c.1)).length ≤ (l.filter fun c => decide (N < c.1)).length := fun l => by
      induction l with
      | nil => exact Nat.le_refl _
      | cons d l ih =>
        by_cases h1 : M < d.1
        · rw [List.filter_cons_of_pos (by simpa using h1), List.filter_cons_of_pos (by simpa using (show N < d.1 by omega))]
          simp only [List.length_cons]; omega
        · rw [List.filter_cons_of_neg (by simpa using h1)]
          by_cases h2 : N < d.1
          · rw [List.filter_cons_of_pos (by simpa using h2)]; simp only [List.length_cons]; omega
          · rw [List.filter_cons_of_neg (by simpa using h2)]; exact ih
    have hA := key A
    have hB := key B
    unfold remT
    rw [List.filter_append, List.filter_append, List.filter_cons_of_neg (by simpa using (show ¬ M < x.1 by omega)), List.filter_cons_of_pos (by simpa using (show N < x.1 by omega)), List.length_append, List.length_append, List.length_cons]
    omega
/-- All cards, folded into nothing: what the collection has. -/
theorem page_zero {k : Nat} {c : Cs} (hi : Inv k c) {ys : List It} (h : Sin c 0 ys) : ∀ u, (ys.foldl foldH fun _ => none) u = getL u c.L := fun u => by
  have hall : ∀ t ∈ ys, (if t.x = true then none else some (t.v, t.c)) = getL t.u c.L := fun t ht => by
    have hm := h.1.mem_iff.1 ht
    unfold sin0 at hm
    rw [if_pos rfl] at hm
    unfold itsK at hm
    obtain ⟨p, hp, rfl⟩ := List.mem_map.1 hm
    have hg := srt_get hi.srt p hp
    show (if false = true then none else some (p.2.1, p.2.2)) = getL p.1 c.L
    rw [hg, if_neg (by decide)]
  rw [foldH_on u ys _ hall]
  by_cases e : (ys.any fun t => decide (t.u = u)) = true
  · rw [if_pos e]
  · rw [if_neg e]
    refine Eq.symm (getL_none fun a hm e2 => e ?_)
    rw [h.1.any_eq]
    unfold sin0
    rw [if_pos rfl]
    unfold itsK
    exact List.any_eq_true.2 ⟨_, List.mem_map.2 ⟨a, hm, rfl⟩, decide_eq_true e2⟩
/-- Two sorted rows that say the same are the same. -/
theorem srt_ext : ∀ {A B : LK}, Srt A → Srt B → (∀ u, getL u A = getL u B) → A = B
  | [], [], _, _, _ => rfl
  | [], b :: B, _, _, h => by have := h b.1; rw [getL_cons, if_pos rfl] at this; cases this
  | a :: A, [], _, _, h => by have := h a.1; rw [getL_cons, if_pos rfl] at this; cases this
  | a :: A, b :: B, ha, hb, h => by
    obtain ⟨a1, a2⟩ := List.pairwise_cons.1 ha
    obtain ⟨b1, b2⟩ := List.pairwise_cons.1 hb
    have hk : a.1 = b.1 := by
      by_cases e : a.1 = b.1
      · exact e
      · have h1 := h a.1
        rw [getL_cons, if_pos rfl, getL_cons, if_neg e] at h1
        have h2 := h b.1
        rw [getL_cons, if_neg (fun e2 => e e2.symm), getL_cons, if_pos rfl] at h2
        have m1 := getL_mem h1.symm
        have m2 := getL_mem h2
        have k1 := b1 _ m1
        have k2 := a1 _ m2
        have := klt_asym k1
        rw [k2] at this; cases this
    have hv : a.2 = b.2 := by
      have h1 := h a.1
      rw [getL_cons, if_pos rfl, getL_cons, if_pos hk] at h1
      exact Option.some.inj h1
    have he : a = b := Prod.ext hk hv
    subst he
    rw [srt_ext a2 b2 (fun u => ?_)]
    by_cases e : u = a.1
    · subst e
      rw [getL_none (fun p hp e2 => by have := a1 p hp; rw [e2, klt_irr] at this; cases this), getL_none (fun p hp e2 => by have := b1 p hp; rw [e2, klt_irr] at this; cases this)]
    · have := h u
      rwa [getL_cons, if_neg e, getL_cons, if_neg e] at this
end Go.Proofs.Ythcjbljkokflgaa
namespace Go.Proofs.Ythcjbljkokflgaa
open Go.RowKit
open Go.Lib
open Go.Proofs.Sp
set_option linter.unusedVariables false
set_option linter.unusedSimpArgs false
set_option maxRecDepth 100000
theorem csince_cl {wr : World} {B g k : Nat} {c : Cs} (h : Cl wr B g c) (hi : Inv k c) (hk : k ≤ 1000) (T : Int) (ho : T = 0 ∨ (c.horizon ≤ T ∧ T ≤ c.latest)) : Calls Try.prog 28 #[.pointer (some ⟨g, 0, none⟩), .int .i64 T] wr fun e w' => ∃ U ys, Sin c T ys ∧ e = .returned (.tuple #[U, .int .i64 0]) ∧ w'.ownsRow wr.heap.size 62 4 U ys.length (itsC ys) ∧ Below wr.heap.size wr w' := by
  have hf := hi.fit (by omega)
  by_cases h0 : T = 0
  · subst h0
    exact since_live h hi.srt hf
  · have h1 := ho.resolve_left h0
    exact since_chg h hf h0 h1.1 h1.2
/-- A collection alone, the document's as a ghost: what a law knows of it. -/
structure Gh (k : Nat) (c : Cs) (R : Rs) (t : Int) : Prop where
  sim : Sim c R
  inv : Inv k c
  kv : KV R.log R.L
  wfc : Wfc c
  la : c.latest ≤ t
theorem gh_new (birth cards log : Int) : Gh 0 (newC birth cards log) (rnewC birth cards log) birth := ⟨sim_new _ _ _, inv_new _ _ _, kv_new _ _ _, wfc_new _ _ _, Int.le_refl _⟩
theorem Gh.ap {k : Nat} {c : Cs} {R : Rs} {t : Int} (h : Gh k c R t) (del : Bool) (uid card : ByteArray) (hu : uid.size ≤ 1000) (hc : card.size ≤ 10000) (ht : wf (t + 1)) : Gh (k + 1) (applyC c del uid card (t + 1)).2 (rAp R del uid card (t + 1)).2 (t + 1) := by
  obtain ⟨_, s2, s3⟩ := sim_apply h.sim h.inv del uid card (t + 1) hu hc
  refine ⟨s2, s3, kv_ap h.sim h.inv h.kv _ _ _ _, wfc_ap h.wfc _ _ _ _ ht, ?_⟩
  have := h.la
  unfold applyC
  split
  · show c.latest ≤ t + 1; omega
  · exact Int.le_refl _
theorem remT_snoc (log : List Chg) (x : Chg) (N : Int) : remT (log ++ [x]) N ≤ remT log N + 1 := by
  unfold remT
  rw [List.filter_append, List.length_append]
  have : ([x].filter fun c => decide (N < c.1)).length ≤ 1 := List.length_filter_le _ _
  omega
theorem remT_drop (log : List Chg) (N : Int) : remT (log.drop 1) N ≤ remT log N := by
  unfold remT
  exact ((List.drop_sublist 1 log).filter _).length_le
theorem remT_ap (R : Rs) (del : Bool) (uid card : ByteArray) (tok N : Int) : remT (rAp R del uid card tok).2.log N ≤ remT R.log N + 1 := by
  unfold rAp
  split
  · show remT R.log N ≤ _; omega
  · show remT (rLog { R with L := rRow R.L del uid card tok } (tok, uid)).log N ≤ _
    unfold rLog
    split
    · exact Nat.le_trans (remT_drop _ _) (remT_snoc _ _ _)
    · exact remT_snoc _ _ _
section
variable {w wr w' : World} {g r k : Nat} {c : Cs} {R : Rs}
set_option maxHeartbeats 8000000 in
theorem cpage_any {B : Nat} (h : Cl wr B g c) (hi : Inv k c) (hk : k ≤ 1000) (hw : Wfc c) (T most : Int) : Calls Try.prog 30 #[.pointer (some ⟨g, 0, none⟩), .int .i64 T, .int .i64 most] wr fun e w' => ∃ A len cap b ys, TellC c T ys ∧ e = .returned (.tuple #[.slice A len cap, .int .i64 (pgO c T most ys).2.1, .bool (pgO c T most ys).2.2, .int .i64 (errC c T)]) ∧ Its w' A len cap b 0 (pgO c T most ys).1 ∧ Below wr.heap.size wr w' := by
  by_cases hb : BadT c T
  · have HSB := Lib.hid (since_bad h hb.1 hb.2)
    have HE := Lib.hid (pg_bad hb most)
    have HTE := HE.out.2.1
    clear hb h
    go_enter Try.func30, Try.ntmps30
    go_wp2_with fail
    refine HSB.out.mono ?_
    rintro _ w5 ⟨rfl, hw5⟩
    replace hw5 := hw5.symm
    subst hw5
    go_wp2
    ((try simp only [Exit.inBlock, Exit.then]); refine bodyPost_ret (results_tmp4 rfl _ _ _) rfl ?_)
    exact ⟨none, 0, 0, 0, [], HTE, by rw [HE.out.1, HE.out.2.2] <;> rfl, by rw [HE.out.2.2]; exact its_nil _, Below.refl _ _⟩
  · have HNB := Lib.hid hb
    have HOK := Lib.hid (badT_no hb)
    have HER := Lib.hid (pg_err hb)
    rw [HER.out]
    have HCS := Lib.hid (csince_cl h hi hk T HOK.out)
    have HH := Lib.hid h
    have HIV := Lib.hid hi
    have HWF := Lib.hid hw
    clear hb h hw hi
    go_enter Try.func30, Try.ntmps30
    go_wp2_with fail
    refine HCS.out.mono ?_
    rintro _ ws ⟨U, ys, hs, rfl, h1, h2⟩
    have HTE := Lib.hid (pg_tell HNB.out hs)
    have HYL := Lib.hid (show ys.length ≤ 1000 from (by rw [hs.1.length_eq]; have := sin0_len HIV.out T; omega))
    have HWV := Lib.hid (told_wf HWF.out hs)
    have HUB := Lib.hid h2
    obtain ⟨mm, RR, hbx, -, -, -, -⟩ := HH.out.on h2
    have c4 := hbx.cell 4
    simp only [List.getElem?_toArray, List.getElem?_cons_zero, List.getElem?_cons_succ] at c4
    obtain ⟨A1, cap1, b1, rfl, hi1, -⟩ := own_its2 h1
    have HU := Lib.hid h1
    have HI := Lib.hid hi1
    have hc1 := hi1.le
    obtain ⟨len, hlen⟩ : ∃ n, ys.length = n := ⟨_, rfl⟩
    have HLE := Lib.hid hlen
    rw [hlen] at HU HI hc1 HYL ⊢
    have hlI : (len : Int) ≤ 1000 := by have := HYL.out; omega
    clear h1 h2 hi1 hlen hbx hs HCS
    by_cases hT : T = 0
    · have HPG := Lib.hid (pg_full (most := most) HNB.out (ys := ys) (.inl hT))
      subst hT
      go_wp2_with fail
      go_quiet (fail)
      go_wp2
      ((try simp only [Exit.inBlock, Exit.then]); refine bodyPost_ret (results_tmp4 rfl _ _ _) rfl ?_)
      exact ⟨_, _, _, b1, ys, HTE.out, by rw [HPG.out] <;> rfl, by rw [HPG.out]; exact HI.out.below (below_drewN (Below.refl _ _) _) (fun e => (HI.out.addr e).2), below_drewN HUB.out _⟩
    · have t0 : (T == 0) = false := by simpa using hT
      have HSP := Lib.hid (split_any HI.out (by omega) HWV.out most)
      have hin := spl_in (ys.map It.v) most
      rw [List.length_map, HLE.out] at hin
      obtain ⟨n, hn⟩ : ∃ n, spl (ys.map It.v) most = n := ⟨_, rfl⟩
      have HN := Lib.hid hn
      rw [hn] at HSP hin
      clear hn
      go_wp2_with fail
      refine HSP.out.mono ?_
      rintro _ w5 ⟨rfl, hb5⟩
      have HB5 := Lib.hid (HUB.out.trans (hb5.mono HUB.out.size))
      have HI5 := Lib.hid (HI.out.below hb5 (fun e => (HI.out.addr e).2))
      have HU5 := Lib.hid (own_below HU.out hb5)
      have c4' : w5.cell? ⟨g, 4, none⟩ = some (.int .i64 c.latest) := (hb5.cell (p := ⟨g, 4, none⟩) (by
        exact Cl_lt HH.out |> fun h => Nat.lt_of_lt_of_le h HUB.out.size)).trans c4
      clear hb5 HSP c4
      by_cases hnl : n = len
      · have HPG := Lib.hid (pg_full (most := most) HNB.out (ys := ys) (.inr (by rw [HN.out, HLE.out]; exact hnl)))
        subst hnl
        go_wp2_with fail
        go_quiet (fail)
        go_wp2
        ((try simp only [Exit.inBlock, Exit.then]); refine bodyPost_ret (results_tmp4 rfl _ _ _) rfl ?_)
        exact ⟨_, _, _, b1, ys, HTE.out, by rw [HPG.out] <;> rfl, by rw [HPG.out]; exact HI5.out.below (below_drewN (Below.refl _ _) _) (fun e => (HI5.out.addr e).2), below_drewN HB5.out _⟩
      · have hin2 := hin.resolve_left hnl
        obtain ⟨p, hp⟩ : ∃ p, n = p + 1 := ⟨n - 1, by omega⟩
        obtain ⟨t, ht⟩ : ∃ t, ys[p]? = some t := ⟨ys[p]'(by rw [HLE.out]; omega), List.getElem?_eq_getElem _⟩
        have HPG := Lib.hid (pg_cut HNB.out (ys := ys) hT HN.out (by rw [HLE.out]; exact hnl) hp ht)
        obtain ⟨rfl, hbl⟩ := HI5.out.addr (by omega)
        obtain ⟨d0, d1, -⟩ := row_item HU5.out ht
        obtain ⟨tu, tv, tx, tc⟩ := t
        have HTT := Lib.hid ht
        simp only at d1 HPG
        have i1 : IntKind.i64.wrap ((n : Int) - 1) = (p : Int) := by rw [IntWalk.i64_in _ (by omega)]; omega
        have i2 : wrap64 ((n : Int) - 1) = (p : Int) := by rw [IntWalk.wrap64_in _ (by omega)]; omega
        have hpI : (p : Int) < (len : Int) := by omega
        have hpl : p < len := by omega
        have hpc : p < cap1 := by omega
        have hne : ((n : Int) == (len : Int)) = false := beq_false_of_ne (fun e => hnl (by omega))
        have hcut := icut_to (some ⟨b1, 0, none⟩) len cap1 n (by omega)
        have HCL := Lib.hid (clone_any (own_below HU5.out (Below.refl _ w5).drew) (n := n) (by omega) (by omega) (by omega))
        have HTL := Lib.hid (show (ys.take n).length = n by rw [List.length_take, HLE.out]; omega)
        clear ht hp hin hin2 d0 hbl
        go_wp2_with fail
        go_region_held3 (fun W => W.cell? ⟨b1, p * 4 + 1, none⟩ = some (.int .i64 tv)) (assumption) (first
          | (go_at_call 56
             (with_reducible refine HCL.out.mono ?_)
             clear HCL
             rintro _ w6 ⟨U6, rfl, h1, h2⟩
             have HU6 := Lib.hid (show w6.ownsRow w5.drew.heap.size 62 4 U6 (ys.take n).length (itsC (ys.take n)) by rw [HTL.out]; exact h1)
             have HB6 := Lib.hid ((HB5.out.drew).trans (h2.mono HB5.out.size))
             have e1 : w6.cell? ⟨b1, p * 4 + 1, none⟩ = some (.int .i64 tv) := (row_item (own_below HU5.out (show Below w5.heap.size w5 w6 from ((Below.refl _ w5).drew).trans h2)) HTT.out).2.1
             clear h1 h2)
          | fail)
        all_goals (
          go_wp2
          obtain ⟨A6, cap6, b6, rfl, hi6, -⟩ := own_its2 HU6.out
          ((try simp only [Exit.inBlock, Exit.then]); refine bodyPost_ret (results_tmp4 rfl _ _ _) rfl ?_)
          exact ⟨_, _, _, b6, ys, HTE.out, by rw [HPG.out] <;> rfl, by rw [HPG.out]; exact hi6, HB6.out⟩)
end
end Go.Proofs.Ythcjbljkokflgaa
