/- ColPages. -/
import Derived.Test.YthcjbljkokflgaaYc
import Derived.Test.YthcjbljkokflgaaPa
import Derived.Lib.SliceRun
import Derived.Deep.RegionHeld3
import Derived.Deep.DrawnRows
set_option linter.unnecessarySimpa false
/- Pages: numbers that fit, where a list is cut, Clone (maths, and a small walk). -/
namespace Go.Proofs.Ythcjbljkokflgaa
open Go.RowKit
open Go.Lib
open Go.Proofs.Sp
set_option linter.unusedVariables false
set_option linter.unusedSimpArgs false
set_option maxRecDepth 100000
theorem ak_open2 {w : World} {cs : List Value} (h : Sh.ok w shAk cs) : ∃ a : Ak, cs = akC a ∧ wf a.tok := by
  unfold shAk at h
  rw [Sh.ok, Sh.okAll, Sh.okAll] at h
  obtain ⟨hl, h0, h1, _⟩ := h
  obtain ⟨o, ho⟩ := op_open h0
  simp only [Sh.ok] at h1
  obtain ⟨tok, e0, hv⟩ := h1
  refine ⟨⟨o, tok⟩, ?_, hv⟩
  match cs, hl with
  | [c0, c1, c2, c3, c4, c5], _ =>
    simp at e0
    subst e0
    simp at ho
    unfold akC
    rw [← ho]; rfl
theorem Aks_open2 {w : World} {A : Option Addr} {len cap : Nat} (S : Sh.ok w (Sh.slice 6 shAk) [.slice A len cap]) : ∃ b off l, Aks w A len cap b off l ∧ ∀ a ∈ l, wf a.tok := by
  obtain ⟨b, off, hle, hmax, ha, hc⟩ := slice_at S (by omega)
  have H : ∀ i, i < len → ∃ a : Ak, wf a.tok ∧ ∀ j, j < 6 → w.cell? ⟨b, off + i * 6 + j, none⟩ = (akC a)[j]? := by
    intro i hi
    obtain ⟨cs, hl, hok, hcell⟩ := hc i hi
    obtain ⟨a, rfl, hv⟩ := ak_open2 hok
    exact ⟨a, hv, hcell⟩
  refine ⟨b, off, List.ofFn (fun i : Fin len => Classical.choose (H i.1 i.2)), ⟨by simp, hle, ha, fun j a hj => ?_⟩, fun a hm => ?_⟩
  · have hjl : j < len := by have := (List.getElem?_eq_some_iff.1 hj).1; simpa using this
    rw [List.getElem?_eq_getElem (by simpa using hjl)] at hj
    simp only [List.getElem_ofFn, Option.some.injEq] at hj
    have h2 := (Classical.choose_spec (H j hjl)).2
    rw [hj] at h2
    exact h2
  · obtain ⟨i, rfl⟩ := (List.mem_ofFn).1 hm
    exact (Classical.choose_spec (H i.1 i.2)).1
/-- Its tokens fit. -/
structure Wfc (c : Cs) : Prop where
  l : ∀ p ∈ c.L, wf p.2.1
  r : ∀ q ∈ c.ring, wf q.1
theorem wfc_new (birth cards log : Int) : Wfc (newC birth cards log) := ⟨(fun p h => by cases h), (fun q h => by cases h)⟩
theorem wfc_ap {c : Cs} (h : Wfc c) (del : Bool) (uid card : ByteArray) (tok : Int) (ht : wf tok) : Wfc (applyC c del uid card tok).2 := by
  unfold applyC
  by_cases hn : noC c del uid tok = true
  · rw [if_pos hn]; exact h
  · rw [if_neg hn]
    obtain ⟨L, F, rg, mo, lm, la, ho, by_⟩ := c
    obtain ⟨hl, hr⟩ := h
    simp only at hl hr
    have e1 : ∀ p ∈ (if del = true then delL uid L else insL uid (tok, card) L), wf p.2.1 := by
      intro p hp
      split at hp
      · exact hl p (delL_sub.subset hp)
      · rcases insL_mem hp with rfl | hp
        · exact ht
        · exact hl p hp
    unfold yesC rpush
    simp only
    by_cases hf : (rg.length : Int) < lm
    · rw [if_pos hf]
      refine ⟨e1, fun q hq => ?_⟩
      rcases List.mem_append.1 hq with hq | hq
      · exact hr q hq
      · rw [List.mem_singleton.1 hq]; exact ht
    · rw [if_neg hf]
      refine ⟨e1, fun q hq => ?_⟩
      rcases List.mem_or_eq_of_mem_set hq with hq | hq
      · exact hr q hq
      · rw [hq]; exact ht
theorem wfc_made : ∀ (l : List Ak), (∀ a ∈ l, wf a.tok) → ∀ c : Cs, Wfc c → Wfc (l.foldl apC c)
  | [], _, c, h => h
  | a :: l, hl, c, h => wfc_made l (fun b hb => hl b (List.mem_cons_of_mem _ hb)) _ (wfc_ap h _ _ _ _ (hl a List.mem_cons_self))
theorem told_wf {c : Cs} (h : Wfc c) {T : Int} {ys : List It} (hs : Sin c T ys) : ∀ t ∈ ys, wf t.v := by
  intro t ht
  have hm := hs.1.mem_iff.1 ht
  unfold sin0 at hm
  by_cases h0 : T = 0
  · rw [if_pos h0] at hm
    unfold itsK at hm
    obtain ⟨p, hp, rfl⟩ := List.mem_map.1 hm
    exact h.l p hp
  · rw [if_neg h0] at hm
    unfold chgL at hm
    obtain ⟨p, hp, rfl⟩ := List.mem_map.1 hm
    have hr : wf p.2 := by
      have hq := List.mem_reverse.1 (lastL_mem hp)
      unfold ord at hq
      rcases List.mem_append.1 hq with hq | hq
      · exact h.r _ (List.mem_of_mem_drop hq)
      · exact h.r _ (List.mem_of_mem_take hq)
    unfold chgI
    cases hy : getL p.1 c.L with
    | none => exact hr
    | some y => exact h.l _ (getL_mem hy)
theorem cutAt_in {t : Nat → Bool} {len : Nat} : ∀ {d n : Nat}, cutAt t len d n = len ∨ (n ≤ cutAt t len d n ∧ cutAt t len d n < n + d)
  | 0, _ => .inl rfl
  | d + 1, n => by
    unfold cutAt
    split
    · exact .inr ⟨Nat.le_refl _, by omega⟩
    · rcases cutAt_in (t := t) (len := len) (d := d) (n := n + 1) with h | h
      · exact .inl h
      · exact .inr ⟨by omega, by omega⟩
theorem spl_in (vs : List Int) (most : Int) : spl vs most = vs.length ∨ (0 < spl vs most ∧ spl vs most < vs.length) := by
  unfold spl
  rcases cutAt_in (t := tst vs) (len := vs.length) (d := vs.length - (max most 1).toNat) (n := (max most 1).toNat) with h | h
  · exact .inl h
  · exact .inr ⟨by omega, by omega⟩
open Classical in
/-- A page. -/
noncomputable def pgO (c : Cs) (T most : Int) (ys : List It) : List It × (Int × Bool) :=
  if BadT c T then ([], (0, false))
  else if T = 0 ∨ spl (ys.map It.v) most = ys.length then (ys, (c.latest, false))
  else (ys.take (spl (ys.map It.v) most), ((ys.map It.v).getD (spl (ys.map It.v) most - 1) 0, true))
theorem its_take {w : World} {A : Option Addr} {len cap b off n : Nat} {xs : List It} (h : Its w A len cap b off xs) (hn : n ≤ len) : Its w A n cap b off (xs.take n) :=
  ⟨by rw [List.length_take, h.hlen]; omega, Nat.le_trans hn h.le, fun e => h.addr (by omega), fun j t hj => h.cell j t (by
    rw [List.getElem?_take] at hj
    split at hj
    · exact hj
    · cases hj)⟩
theorem results_tmp4 {fn : Func} {t u v x : Tmp} (h : fn.results = #[.tmp t, .tmp u, .tmp v, .tmp x]) (tmps : Array Value) (P : Program) (w : World) :
    (results fn tmps).run P w = .ok (.tuple #[tmps.getD t undef, tmps.getD u undef, tmps.getD v undef, tmps.getD x undef]) w := by
  simp [results, h]
set_option maxHeartbeats 4000000 in
theorem clone_any {w : World} {B len n cap : Nat} {A : Option Addr} {ys : List It} (h : w.ownsRow B 62 4 (.slice A len cap) len (itsC ys)) (hn : n ≤ len) (h0 : 0 < n) (hb : len ≤ 100000) : Calls Try.prog 56 #[.slice A n cap] w fun e w' => ∃ U, e = .returned U ∧ w'.ownsRow w.heap.size 62 4 U n (itsC (ys.take n)) ∧ Below w.heap.size w w' := by
  obtain ⟨i0, hi, hz0, hz1, hz2⟩ := info_parts infoIt
  obtain ⟨hcap, gl, hsk⟩ := sk_of h
  have hyl : (itsC ys).length = len * 4 := h.1
  obtain ⟨w1, hw1⟩ : ∃ w1, w.alloc (.cells #[] 62) = w1 := ⟨_, rfl⟩
  have HB1 := Lib.hid (show Below w.heap.size w w1 from hw1 ▸ (Below.refl _ w).alloc (Nat.le_refl _) _)
  have HO1 := Lib.hid (show w1.ownsRow w.heap.size 62 4 (.slice (some ⟨w.heap.size, 0, none⟩) 0 0) 0 [] from hw1 ▸ World.ownsRow_lit w #[] 0 (Nat.le_refl _) (by decide) rfl)
  have HTO := Lib.hid ((hsk.on HB1.out).to 4 (by decide) n (by rw [hyl]; omega))
  have HIT := Lib.hid (itsC_take ys n)
  obtain ⟨rfl, -⟩ := hsk 0 _ (List.getElem?_eq_getElem (by rw [hyl]; omega))
  have HM := Lib.hid (show 0 + n ≤ maxLen ∧ (0 + n) * 48 ≤ 140737488355328 from ⟨by unfold maxLen; omega, by omega⟩)
  have HLE := Lib.hid (show ((itsC ys).take (n * 4)).length = n * 4 by rw [List.length_take, hyl]; omega)
  have q40 : ∀ (w : World) (a : Option Addr) (n c n' c' : Nat), Sem.run Try.prog (binOp .eql 40 (.slice a n c) (.slice none n' c')) w = .ok (.bool a.isNone) w := fun w a n c n' c' => Lib.run_eql_slice_nil w 40 62 a n c n' c' Try.underlying40
  clear h hsk hyl
  go_enter Try.func56, Try.ntmps56
  go_wp2_with (first
    | (at_builtin
       refine wpList_apps _ rfl _ _ 40 62 rfl i0 _ 4 48 Try.underlying40 hi hz0 hz1 hz2 rfl (by decide) w.heap.size _ 0 [] rfl HO1.out _ n cap ((itsC ys).take (n * 4)) rfl HLE.out HTO.out (fun u hu => itsC_one _ u (List.mem_of_mem_take hu)) HM.out.1 HM.out.2 HB1.out.size ?_
       intro v' w2 hown hgr
       have HO2 := Lib.hid hown
       have HB2 := Lib.hid (HB1.out.grown hgr HB1.out.size (fun k e => (HO1.out.lt k e).1))
       clear hown hgr)
    | fail)
  go_ret
  exact ⟨v', rfl, by have := HO2.out; rw [Nat.zero_add, List.nil_append, ← HIT.out] at this; exact this, HB2.out⟩
end Go.Proofs.Ythcjbljkokflgaa
/- Page of both. -/
namespace Go.Proofs.Ythcjbljkokflgaa
open Go.RowKit
open Go.Lib
open Go.Proofs.Sp
set_option linter.unusedVariables false
set_option linter.unusedSimpArgs false
set_option maxRecDepth 100000
theorem pg_bad {c : Cs} {T : Int} (h : BadT c T) (most : Int) : errC c T = 8 ∧ TellC c T [] ∧ pgO c T most [] = ([], (0, false)) := ⟨if_pos h, (by unfold TellC; rw [if_pos h]), if_pos h⟩
theorem pg_err {c : Cs} {T : Int} (h : ¬ BadT c T) : errC c T = 0 := if_neg h
theorem pg_tell {c : Cs} {T : Int} (h : ¬ BadT c T) {ys : List It} (hs : Sin c T ys) : TellC c T ys := by unfold TellC; rw [if_neg h]; exact hs
theorem pg_full {c : Cs} {T most : Int} (h : ¬ BadT c T) {ys : List It} (h2 : T = 0 ∨ spl (ys.map It.v) most = ys.length) : pgO c T most ys = (ys, (c.latest, false)) := by
  unfold pgO
  rw [if_neg h, if_pos h2]
theorem pg_cut {c : Cs} {T most : Int} (h : ¬ BadT c T) {ys : List It} (h1 : T ≠ 0) {n p : Nat} (h2 : spl (ys.map It.v) most = n) (h3 : n ≠ ys.length) (hp : n = p + 1) {t : It} (ht : ys[p]? = some t) : pgO c T most ys = (ys.take n, (t.v, true)) := by
  unfold pgO
  rw [if_neg h, if_neg (fun e => by
    rcases e with e | e
    · exact h1 e
    · exact h3 (h2 ▸ e)), h2, List.getD_eq_getElem?_getD, List.getElem?_map, hp, Nat.add_sub_cancel, ht]
  rfl
theorem Cl_lt {w : World} {B g : Nat} {c : Cs} (h : Cl w B g c) : g < w.heap.size := by
  obtain ⟨_, _, e, _⟩ := h
  exact e.lt
section
variable {w wr w' : World} {g r k : Nat} {c : Cs} {R : Rs}
set_option maxHeartbeats 8000000 in
theorem page_any (h : Du w wr g r k c R) (hk : k ≤ 1000) (hw : Wfc c) (T most : Int) : Calls Try.prog 30 #[.pointer (some ⟨g, 0, none⟩), .int .i64 T, .int .i64 most] wr fun e w' => ∃ A len cap b ys, TellC c T ys ∧ e = .returned (.tuple #[.slice A len cap, .int .i64 (pgO c T most ys).2.1, .bool (pgO c T most ys).2.2, .int .i64 (errC c T)]) ∧ Its w' A len cap b 0 (pgO c T most ys).1 ∧ Below wr.heap.size wr w' := by
  by_cases hb : BadT c T
  · have HSB := Lib.hid (since_bad h.cl hb.1 hb.2)
    have HE := Lib.hid (pg_bad hb most)
    have HTE := HE.out.2.1
    clear hb h
    go_enter Try.func30, Try.ntmps30
    go_wp2_with fail
    refine HSB.out.mono ?_
    rintro _ w5 ⟨rfl, hw5⟩
    replace hw5 := hw5.symm
    subst hw5
    go_wp2
    ((try simp only [Exit.inBlock, Exit.then]); refine bodyPost_ret (results_tmp4 rfl _ _ _) rfl ?_)
    exact ⟨none, 0, 0, 0, [], HTE, by rw [HE.out.1, HE.out.2.2] <;> rfl, by rw [HE.out.2.2]; exact its_nil _, Below.refl _ _⟩
  · have HNB := Lib.hid hb
    have HOK := Lib.hid (badT_no hb)
    have HER := Lib.hid (pg_err hb)
    rw [HER.out]
    have HCS := Lib.hid (h.csince hk T HOK.out)
    have HH := Lib.hid h
    have HWF := Lib.hid hw
    clear hb h hw
    go_enter Try.func30, Try.ntmps30
    go_wp2_with fail
    refine HCS.out.mono ?_
    rintro _ ws ⟨U, ys, hs, rfl, h1, h2⟩
    have HTE := Lib.hid (pg_tell HNB.out hs)
    have HYL := Lib.hid (show ys.length ≤ 1000 from (by have := HH.out.sin_len hs; omega))
    have HWV := Lib.hid (told_wf HWF.out hs)
    have HUB := Lib.hid h2
    obtain ⟨mm, RR, hbx, -, -, -, -⟩ := (HH.out.on h2).cl
    have c4 := hbx.cell 4
    simp only [List.getElem?_toArray, List.getElem?_cons_zero, List.getElem?_cons_succ] at c4
    obtain ⟨A1, cap1, b1, rfl, hi1, -⟩ := own_its2 h1
    have HU := Lib.hid h1
    have HI := Lib.hid hi1
    have hc1 := hi1.le
    obtain ⟨len, hlen⟩ : ∃ n, ys.length = n := ⟨_, rfl⟩
    have HLE := Lib.hid hlen
    rw [hlen] at HU HI hc1 HYL ⊢
    have hlI : (len : Int) ≤ 1000 := by have := HYL.out; omega
    clear h1 h2 hi1 hlen hbx hs HCS
    by_cases hT : T = 0
    · have HPG := Lib.hid (pg_full (most := most) HNB.out (ys := ys) (.inl hT))
      subst hT
      go_wp2_with fail
      go_quiet (fail)
      go_wp2
      ((try simp only [Exit.inBlock, Exit.then]); refine bodyPost_ret (results_tmp4 rfl _ _ _) rfl ?_)
      exact ⟨_, _, _, b1, ys, HTE.out, by rw [HPG.out] <;> rfl, by rw [HPG.out]; exact HI.out.below (below_drewN (Below.refl _ _) _) (fun e => (HI.out.addr e).2), below_drewN HUB.out _⟩
    · have t0 : (T == 0) = false := by simpa using hT
      have HSP := Lib.hid (split_any HI.out (by omega) HWV.out most)
      have hin := spl_in (ys.map It.v) most
      rw [List.length_map, HLE.out] at hin
      obtain ⟨n, hn⟩ : ∃ n, spl (ys.map It.v) most = n := ⟨_, rfl⟩
      have HN := Lib.hid hn
      rw [hn] at HSP hin
      clear hn
      go_wp2_with fail
      refine HSP.out.mono ?_
      rintro _ w5 ⟨rfl, hb5⟩
      have HB5 := Lib.hid (HUB.out.trans (hb5.mono HUB.out.size))
      have HI5 := Lib.hid (HI.out.below hb5 (fun e => (HI.out.addr e).2))
      have HU5 := Lib.hid (own_below HU.out hb5)
      have c4' : w5.cell? ⟨g, 4, none⟩ = some (.int .i64 c.latest) := (hb5.cell (p := ⟨g, 4, none⟩) (by
        exact Cl_lt (HH.out.cl) |> fun h => Nat.lt_of_lt_of_le h HUB.out.size)).trans c4
      clear hb5 HSP c4
      by_cases hnl : n = len
      · have HPG := Lib.hid (pg_full (most := most) HNB.out (ys := ys) (.inr (by rw [HN.out, HLE.out]; exact hnl)))
        subst hnl
        go_wp2_with fail
        go_quiet (fail)
        go_wp2
        ((try simp only [Exit.inBlock, Exit.then]); refine bodyPost_ret (results_tmp4 rfl _ _ _) rfl ?_)
        exact ⟨_, _, _, b1, ys, HTE.out, by rw [HPG.out] <;> rfl, by rw [HPG.out]; exact HI5.out.below (below_drewN (Below.refl _ _) _) (fun e => (HI5.out.addr e).2), below_drewN HB5.out _⟩
      · have hin2 := hin.resolve_left hnl
        obtain ⟨p, hp⟩ : ∃ p, n = p + 1 := ⟨n - 1, by omega⟩
        obtain ⟨t, ht⟩ : ∃ t, ys[p]? = some t := ⟨ys[p]'(by rw [HLE.out]; omega), List.getElem?_eq_getElem _⟩
        have HPG := Lib.hid (pg_cut HNB.out (ys := ys) hT HN.out (by rw [HLE.out]; exact hnl) hp ht)
        obtain ⟨rfl, hbl⟩ := HI5.out.addr (by omega)
        obtain ⟨d0, d1, -⟩ := row_item HU5.out ht
        obtain ⟨tu, tv, tx, tc⟩ := t
        have HTT := Lib.hid ht
        simp only at d1 HPG
        have i1 : IntKind.i64.wrap ((n : Int) - 1) = (p : Int) := by rw [IntWalk.i64_in _ (by omega)]; omega
        have i2 : wrap64 ((n : Int) - 1) = (p : Int) := by rw [IntWalk.wrap64_in _ (by omega)]; omega
        have hpI : (p : Int) < (len : Int) := by omega
        have hpl : p < len := by omega
        have hpc : p < cap1 := by omega
        have hne : ((n : Int) == (len : Int)) = false := beq_false_of_ne (fun e => hnl (by omega))
        have hcut := icut_to (some ⟨b1, 0, none⟩) len cap1 n (by omega)
        have HCL := Lib.hid (clone_any (own_below HU5.out (Below.refl _ w5).drew) (n := n) (by omega) (by omega) (by omega))
        have HTL := Lib.hid (show (ys.take n).length = n by rw [List.length_take, HLE.out]; omega)
        clear ht hp hin hin2 d0 hbl
        go_wp2_with fail
        go_region_held3 (fun W => W.cell? ⟨b1, p * 4 + 1, none⟩ = some (.int .i64 tv)) (assumption) (first
          | (go_at_call 56
             (with_reducible refine HCL.out.mono ?_)
             clear HCL
             rintro _ w6 ⟨U6, rfl, h1, h2⟩
             have HU6 := Lib.hid (show w6.ownsRow w5.drew.heap.size 62 4 U6 (ys.take n).length (itsC (ys.take n)) by rw [HTL.out]; exact h1)
             have HB6 := Lib.hid ((HB5.out.drew).trans (h2.mono HB5.out.size))
             have e1 : w6.cell? ⟨b1, p * 4 + 1, none⟩ = some (.int .i64 tv) := (row_item (own_below HU5.out (show Below w5.heap.size w5 w6 from ((Below.refl _ w5).drew).trans h2)) HTT.out).2.1
             clear h1 h2)
          | fail)
        all_goals (
          go_wp2
          obtain ⟨A6, cap6, b6, rfl, hi6, -⟩ := own_its2 HU6.out
          ((try simp only [Exit.inBlock, Exit.then]); refine bodyPost_ret (results_tmp4 rfl _ _ _) rfl ?_)
          exact ⟨_, _, _, b6, ys, HTE.out, by rw [HPG.out] <;> rfl, by rw [HPG.out]; exact hi6, HB6.out⟩)
set_option maxHeartbeats 8000000 in
theorem rpage_any (h : Du w wr g r k c R) (hk : k ≤ 1000) (T most : Int) : Calls Try.prog 31 #[.pointer (some ⟨r, 0, none⟩), .int .i64 T, .int .i64 most] wr fun e w' => ∃ A len cap b ys, (∀ zs, TellC c T zs → ys = zs) ∧ e = .returned (.tuple #[.slice A len cap, .int .i64 (pgO c T most ys).2.1, .bool (pgO c T most ys).2.2, .int .i64 (errC c T)]) ∧ Its w' A len cap b 0 (pgO c T most ys).1 ∧ Below wr.heap.size wr w' := by
  by_cases hb : BadT c T
  · have HSB := Lib.hid (rsince_bad h.rc hb.1 (by rw [h.sim.ho, h.sim.la]; exact hb.2))
    have HE := Lib.hid (pg_bad hb most)
    have HTE := Lib.hid (show ∀ zs, TellC c T zs → [] = zs from fun zs hz => by unfold TellC at hz; rw [if_pos hb] at hz; exact hz.symm)
    clear hb h
    go_enter Try.func31, Try.ntmps31
    go_wp2_with fail
    refine HSB.out.mono ?_
    rintro _ w5 ⟨rfl, hw5⟩
    replace hw5 := hw5.symm
    subst hw5
    go_wp2
    ((try simp only [Exit.inBlock, Exit.then]); refine bodyPost_ret (results_tmp4 rfl _ _ _) rfl ?_)
    exact ⟨none, 0, 0, 0, [], HTE.out, by rw [HE.out.1, HE.out.2.2] <;> rfl, by rw [HE.out.2.2]; exact its_nil _, Below.refl _ _⟩
  · have HNB := Lib.hid hb
    have HOK := Lib.hid (badT_no hb)
    have HER := Lib.hid (pg_err hb)
    rw [HER.out]
    have HCS := Lib.hid (h.rsince hk T HOK.out)
    have HH := Lib.hid h
    clear hb h
    go_enter Try.func31, Try.ntmps31
    go_wp2_with fail
    refine HCS.out.mono ?_
    rintro _ ws ⟨U, ys, p1, p2, rfl, h1, h2⟩
    have HTE := Lib.hid (show ∀ zs, TellC c T zs → ys = zs from fun zs hz => by
      unfold TellC at hz
      rw [if_neg HNB.out] at hz
      exact HH.out.since_same hz p1 p2)
    have HYL := Lib.hid (show ys.length ≤ 1000 from (by rw [p1.length_eq, (rsin_perm HH.out.sim T).length_eq]; have := sin0_len HH.out.inv T; omega))
    have HLA := Lib.hid HH.out.sim.la
    have HUB := Lib.hid h2
    obtain ⟨VL, VG, hbx, -, -, -⟩ := (HH.out.on h2).rc
    have c4 := hbx.cell 4
    simp only [List.getElem?_toArray, List.getElem?_cons_zero, List.getElem?_cons_succ] at c4
    rw [HLA.out] at c4
    obtain ⟨A1, cap1, b1, rfl, hi1, -⟩ := own_its2 h1
    have HU := Lib.hid h1
    have HI := Lib.hid hi1
    have hc1 := hi1.le
    obtain ⟨len, hlen⟩ : ∃ n, ys.length = n := ⟨_, rfl⟩
    have HLE := Lib.hid hlen
    rw [hlen] at HU HI hc1 HYL ⊢
    have hlI : (len : Int) ≤ 1000 := by have := HYL.out; omega
    clear h1 h2 hi1 hlen hbx p1 p2 HCS
    by_cases hT : T = 0
    · have HPG := Lib.hid (pg_full (most := most) HNB.out (ys := ys) (.inl hT))
      subst hT
      go_wp2_with fail
      go_quiet (fail)
      go_wp2
      ((try simp only [Exit.inBlock, Exit.then]); refine bodyPost_ret (results_tmp4 rfl _ _ _) rfl ?_)
      exact ⟨_, _, _, b1, ys, HTE.out, by rw [HPG.out] <;> rfl, by rw [HPG.out]; exact HI.out.below (below_drewN (Below.refl _ _) _) (fun e => (HI.out.addr e).2), below_drewN HUB.out _⟩
    · have t0 : (T == 0) = false := by simpa using hT
      have HSP := Lib.hid (rsplit_any HI.out (by omega) most)
      have hin := spl_in (ys.map It.v) most
      rw [List.length_map, HLE.out] at hin
      obtain ⟨n, hn⟩ : ∃ n, spl (ys.map It.v) most = n := ⟨_, rfl⟩
      have HN := Lib.hid hn
      rw [hn] at HSP hin
      clear hn
      go_wp2_with fail
      refine HSP.out.mono ?_
      rintro _ w5 ⟨rfl, hb5⟩
      have HB5 := Lib.hid (HUB.out.trans (hb5.mono HUB.out.size))
      have HI5 := Lib.hid (HI.out.below hb5 (fun e => (HI.out.addr e).2))
      have HU5 := Lib.hid (own_below HU.out hb5)
      have c4' : w5.cell? ⟨r, 4, none⟩ = some (.int .i64 c.latest) := (hb5.cell (p := ⟨r, 4, none⟩) (by
        exact HH.out.rc.lt |> fun h => Nat.lt_of_lt_of_le h HUB.out.size)).trans c4
      clear hb5 HSP c4
      by_cases hnl : n = len
      · have HPG := Lib.hid (pg_full (most := most) HNB.out (ys := ys) (.inr (by rw [HN.out, HLE.out]; exact hnl)))
        subst hnl
        go_wp2_with fail
        go_quiet (fail)
        go_wp2
        ((try simp only [Exit.inBlock, Exit.then]); refine bodyPost_ret (results_tmp4 rfl _ _ _) rfl ?_)
        exact ⟨_, _, _, b1, ys, HTE.out, by rw [HPG.out] <;> rfl, by rw [HPG.out]; exact HI5.out.below (below_drewN (Below.refl _ _) _) (fun e => (HI5.out.addr e).2), below_drewN HB5.out _⟩
      · have hin2 := hin.resolve_left hnl
        obtain ⟨p, hp⟩ : ∃ p, n = p + 1 := ⟨n - 1, by omega⟩
        obtain ⟨t, ht⟩ : ∃ t, ys[p]? = some t := ⟨ys[p]'(by rw [HLE.out]; omega), List.getElem?_eq_getElem _⟩
        have HPG := Lib.hid (pg_cut HNB.out (ys := ys) hT HN.out (by rw [HLE.out]; exact hnl) hp ht)
        obtain ⟨rfl, hbl⟩ := HI5.out.addr (by omega)
        obtain ⟨d0, d1, -⟩ := row_item HU5.out ht
        obtain ⟨tu, tv, tx, tc⟩ := t
        simp only at d1 HPG
        have i1 : IntKind.i64.wrap ((n : Int) - 1) = (p : Int) := by rw [IntWalk.i64_in _ (by omega)]; omega
        have i2 : wrap64 ((n : Int) - 1) = (p : Int) := by rw [IntWalk.wrap64_in _ (by omega)]; omega
        have hpI : (p : Int) < (len : Int) := by omega
        have hpl : p < len := by omega
        have hpc : p < cap1 := by omega
        have hne : ((n : Int) == (len : Int)) = false := beq_false_of_ne (fun e => hnl (by omega))
        have hcut := icut_to (some ⟨b1, 0, none⟩) len cap1 n (by omega)
        clear ht hp hin d0 hbl
        go_wp2_with fail
        go_quiet (fail)
        go_wp2
        ((try simp only [Exit.inBlock, Exit.then]); refine bodyPost_ret (results_tmp4 rfl _ _ _) rfl ?_)
        exact ⟨_, _, _, b1, ys, HTE.out, by rw [HPG.out] <;> rfl, by rw [HPG.out]; exact its_take (HI5.out.below (below_drewN (Below.refl _ _) _) (fun e => (HI5.out.addr e).2)) (by omega), below_drewN HB5.out _⟩
end
end Go.Proofs.Ythcjbljkokflgaa
namespace Go.Proofs.Ythcjbljkokflgaa
open Go.RowKit
open Go.Lib
open Go.Shelf
set_option linter.unusedVariables false
set_option linter.unusedSimpArgs false
set_option maxRecDepth 100000
theorem pg_len (c : Cs) (T most : Int) (ys : List It) : (pgO c T most ys).1.length ≤ ys.length := by
  unfold pgO
  split
  · exact Nat.zero_le _
  split
  · exact Nat.le_refl _
  · rw [List.length_take]; omega
set_option maxHeartbeats 16000000 in
theorem colPages_walk (w : World) (a0 : Int) (w0 : (Lit.int .i64 a0).wf = true) (a1 : Int) (w1 : (Lit.int .i64 a1).wf = true) (a2 : Int) (w2 : (Lit.int .i64 a2).wf = true) (A3 : Option Addr) (len3 cap3 : Nat) (S3 : Sh.ok w (Sh.slice 6 (Sh.agg 6 [(0, 5, (Sh.agg 5 [(0, 1, Sh.bool), (1, 1, Sh.str), (2, 1, Sh.str), (3, 2, (Sh.agg 2 [(0, 1, (Sh.int .i64)), (1, 1, (Sh.int .i64))]))])), (5, 1, (Sh.int .i64))])) [.slice A3 len3 cap3]) (a4 : Int) (w4 : (Lit.int .i64 a4).wf = true) (a5 : Int) (w5 : (Lit.int .i64 a5).wf = true) :
    Calls Try.prog 6 #[.int .i64 a0, .int .i64 a1, .int .i64 a2, .slice A3 len3 cap3, .int .i64 a4, .int .i64 a5] w fun e w' => e = .returned (.bool true) ∧ Below w.heap.size w w' := by
  obtain ⟨b3, off3, l, hA, hwt⟩ := Aks_open2 S3
  have HWT := Lib.hid hwt
  have HA := Lib.hid hA
  clear S3 hA hwt w0 w1 w2
  go_enter Try.func6, Try.ntmps6
  go_wp2_with fail
  refine (first_any w).mono ?_
  rintro _ w1 ⟨rfl, hb⟩
  have HB1 := Lib.hid hb
  have HA1 := Lib.hid (HA.out.on hb)
  have HL := Lib.hid (acts_any HA1.out)
  clear hb
  obtain ⟨y, hy⟩ : ∃ y, actsL l = y := ⟨_, rfl⟩
  have HY := Lib.hid hy
  rw [hy] at HL
  clear hy
  go_wp2_with fail
  refine HL.out.mono ?_
  rintro _ w2 ⟨rfl, hb⟩
  have HB2 := Lib.hid (HB1.out.trans (hb.mono HB1.out.size))
  have HA2 := Lib.hid (HA1.out.on hb)
  clear hb HL
  cases y with
  | false =>
    go_wp2_with fail
    refine (first_any w2).mono ?_
    rintro _ w3 ⟨rfl, hb⟩
    have HB3 := Lib.hid (HB2.out.trans (hb.mono HB2.out.size))
    clear hb
    go_wp2
    go_ret
    exact ⟨rfl, HB3.out⟩
  | true =>
    have HLI := Lib.hid (actsL_iff HY.out)
    have HM := Lib.hid (made_any HA2.out HY.out a0 a1 a2)
    obtain ⟨kl, hkl⟩ : ∃ k, l.length = k := ⟨_, rfl⟩
    have hk80 : kl ≤ 80 := by rw [← hkl]; exact HLI.out.1
    rw [hkl] at HM
    obtain ⟨c, hc⟩ : ∃ c, l.foldl apC (newC a0 a1 a2) = c := ⟨_, rfl⟩
    obtain ⟨R, hR⟩ : ∃ c, l.foldl apR (rnewC a0 a1 a2) = c := ⟨_, rfl⟩
    rw [hc, hR] at HM
    have HCE := Lib.hid hc
    clear HY hkl hc hR
    go_wp2_with fail
    refine HM.out.mono ?_
    rintro _ w3 ⟨g, r, rfl, h1⟩
    have HD := Lib.hid h1
    clear h1 HM
    have HWC := Lib.hid (show Wfc c from HCE.out ▸ wfc_made l HWT.out _ (wfc_new a0 a1 a2))
    have HPG := Lib.hid (page_any HD.out (by omega) HWC.out a4 a5)
    obtain ⟨er, her⟩ : ∃ x, errC c a4 = x := ⟨_, rfl⟩
    have HER := Lib.hid her
    rw [her] at HPG
    clear her
    go_wp2_with fail
    refine HPG.out.mono ?_
    rintro _ w4' ⟨A1, n1, cap1, b1, ys, ht, rfl, h1, h2⟩
    have HT := Lib.hid ht
    have HYL := Lib.hid (HD.out.tell_len ht)
    have HI1 := Lib.hid h1
    have HB4 := Lib.hid h2
    have HRP := Lib.hid (rpage_any (HD.out.on h2) (by omega) a4 a5)
    rw [HER.out] at HRP
    obtain ⟨x, hx⟩ : ∃ x, pgO c a4 a5 ys = x := ⟨_, rfl⟩
    have HXL := Lib.hid (show x.1.length ≤ 80 from hx ▸ Nat.le_trans (pg_len c a4 a5 ys) (Nat.le_trans HYL.out (by omega)))
    have HX := Lib.hid hx
    rw [hx] at HI1 ⊢
    obtain ⟨zs, nx, mo⟩ := x
    simp only at HI1 HXL ⊢
    clear ht h1 h2 hx HPG
    go_wp2_with fail
    refine HRP.out.mono ?_
    rintro _ w5' ⟨A2, n2, cap2, b2, ys2, ht, rfl, h1, h2⟩
    obtain rfl := ht _ HT.out
    rw [HX.out] at h1 ⊢
    simp only at h1 ⊢
    obtain rfl : n1 = n2 := HI1.out.hlen.symm.trans h1.hlen
    have HAL := Lib.hid (alike_any (HI1.out.below h2 (fun e => (HI1.out.addr e).2)) h1 (by have := HI1.out.hlen; have := HXL.out; omega))
    have HB5 := Lib.hid (HB4.out.trans (h2.mono HB4.out.size))
    clear ht h1 h2 HRP
    go_wp2_with fail
    refine HAL.out.mono ?_
    rintro _ w6 ⟨rfl, hz⟩
    have HBZ := Lib.hid (HB5.out.trans (hz.mono HB5.out.size))
    clear hz HAL
    go_wp2
    go_ret
    exact ⟨rfl, HB2.out.trans ((HD.out.bel.trans (HBZ.out.mono HD.out.bel.size)).mono HB2.out.size)⟩
end Go.Proofs.Ythcjbljkokflgaa
