/- RegPlays: the reference's registry: at, Find, Len, Load, NewReg. -/
import Derived.Test.YtlfjhbfhnlclpaaMa
import Derived.Deep.RegionHeld3
namespace Go.Proofs.Ytlfjhbfhnlclpaa
open Go.RowKit
open Go.Lib
set_option linter.unusedVariables false
set_option linter.unusedSimpArgs false
set_option maxRecDepth 100000
/-- The reference's registry: its struct at o, its rows of keys and numbers. -/
structure Ro (w : World) (B o : Nat) (n : Int) (nL : Nat) (Ak : Option Addr) (ck : Nat) (Av : Option Addr) (cv : Nat) (L : LN) : Prop where
  box : Blk w o 48 #[.int .i64 n, .slice Ak nL ck, .slice Av nL cv]
  kr : w.ownsRow B 9 1 (.slice Ak nL ck) nL (svs (keysL L))
  vr : w.ownsRow B 3 1 (.slice Av nL cv) nL (ivs (valsL L))
  hl : L.length = nL
  ge : B ≤ o
  bs : B ≤ w.heap.size
  srt : Srt L
section
variable {w w' : World} {B o nL ck cv : Nat} {n : Int} {Ak Av : Option Addr} {L : LN}
theorem Ro.below (h : Ro w B o n nL Ak ck Av cv L) (hb : Below w.heap.size w w') : Ro w' B o n nL Ak ck Av cv L :=
  ⟨h.box.below hb h.box.lt, row_below h.kr hb, row_below h.vr hb, h.hl, h.ge, Nat.le_trans h.bs hb.size, h.srt⟩
theorem Ro.drew (h : Ro w B o n nL Ak ck Av cv L) : Ro w.drew B o n nL Ak ck Av cv L := h.below ((Below.refl _ w).drew)
theorem Ro.keys (h : Ro w B o n nL Ak ck Av cv L) : ∃ gk, Sl w Ak ck gk (keysL L) := by
  obtain ⟨g, hg⟩ := sv_of h.kr (by rw [keysL_len', h.hl])
  exact ⟨g, sl_of hg⟩
theorem Ro.vals (h : Ro w B o n nL Ak ck Av cv L) : ∃ gv, Sv w Av cv gv (ivs (valsL L)) := sv_of h.vr (by rw [valsL_len', h.hl])
set_option maxHeartbeats 2000000 in
theorem at_any (h : Ro w B o n nL Ak ck Av cv L) (hn : nL ≤ 1000000) (k : ByteArray) (pk : Nat) (pb : Bool) (hr : lplace k (keysL L) = (pk, pb)) :
    Calls Try.prog 27 #[.pointer (some ⟨o, 0, none⟩), .string k] w fun e w' => e = .returned (.tuple #[.int .i64 (pk : Int), .bool pb]) ∧ Below w.heap.size w w' := by
  have H := Lib.hid h
  have HR := Lib.hid hr
  have HN := Lib.hid (show (keysL L).length = nL by rw [keysL_len, h.hl])
  have hnI : (nL : Int) ≤ 1000000 := by omega
  obtain ⟨l, hl⟩ : ∃ l, keysL L = l := ⟨_, rfl⟩
  have HL := Lib.hid hl
  rw [hl] at HR HN
  clear h hr hl
  go_enter Try.func27, Try.ntmps27
  go_wp2_with fail
  go_loopw [6] (fun i wr => ∃ q : Nat, q ≤ nL ∧ i = .int .i64 (q : Int) ∧ (∀ x ∈ l.take q, klt x k = true) ∧ Below w.heap.size w wr) (fun i _ => nL - (intOf i).toNat)
  case atStart => exact ⟨0, Nat.zero_le _, rfl, by simp, Below.refl _ _⟩
  case round =>
    obtain ⟨q, hq, rfl, hsk, hb⟩ := hrel
    have HK := Lib.hid hsk
    have HB := Lib.hid hb
    have c1 : wr.cell? ⟨o, 1, none⟩ = some (.slice Ak nL ck) := (H.out.below hb).box.cell 1
    clear hsk hb
    by_cases hql : q < nL
    · obtain ⟨x, hx⟩ : ∃ x, l[q]? = some x := ⟨l[q]'(by rw [HN.out]; exact hql), List.getElem?_eq_getElem _⟩
      obtain ⟨gk, hgk⟩ := (H.out.below HB.out).keys
      rw [HL.out] at hgk
      obtain ⟨rfl, hgl, d0⟩ := hgk.2 q x hx
      have d0d : wr.drew.cell? ⟨gk, q, none⟩ = some (.string x) := d0
      have c1d : wr.drew.cell? ⟨o, 1, none⟩ = some (.slice (some ⟨gk, 0, none⟩) nL ck) := c1
      have HX := Lib.hid hx
      have hqI : (q : Int) < (nL : Int) := by omega
      clear hx hgk
      by_cases hk : klt x k = true
      · have hkb : Op.bytesLess x.toList k.toList = true := hk
        have HK2 := Lib.hid (show ∀ y ∈ l.take (q + 1), klt y k = true from fun y hy => by
          rw [List.take_add_one, HX.out] at hy
          rcases List.mem_append.1 hy with e | e
          · exact HK.out y e
          · simp at e; rw [e]; exact hk)
        clear hk
        go_wp2
        go_roundw
        case rel => exact ⟨q + 1, by omega, by go_num, HK2.out, HB.out⟩
        case measure => simp [intOf]; omega
      · have hkb : Op.bytesLess x.toList k.toList = false := by have : klt x k = false := by simpa using hk
                                                                exact this
        have HR2 := Lib.hid (show (pk, pb) = (q, decide (x = k)) from by
          have e := lplace_skip k l q (by rw [HN.out]; exact hq) HK.out
          rw [← HR.out, e, List.drop_eq_getElem_cons (by rw [HN.out]; exact hql)]
          have e2 : l[q]'(by rw [HN.out]; exact hql) = x := by have := HX.out; rw [List.getElem?_eq_getElem (by rw [HN.out]; exact hql)] at this; exact Option.some.inj this
          unfold lplace
          rw [e2, if_neg hk]
          simp)
        obtain ⟨rfl, hpb⟩ : pk = q ∧ pb = decide (x = k) := by have := HR2.out; injection this with a b; exact ⟨a, b⟩
        have hkq : (x.toList == k.toList) = pb := by rw [keq, hpb]
        have HB2 := Lib.hid (HB.out.drew)
        clear hk hpb
        go_wp2_with fail
        go_region
        all_goals (
          go_wp2
          go_ret2
          exact ⟨by first | rfl | simp, HB2.out⟩)
    · obtain rfl : nL = q := by omega
      have hr2 : pk = nL ∧ pb = false := by
        have e := lplace_skip k l nL (by rw [HN.out]; exact Nat.le_refl _) HK.out
        rw [HR.out, List.drop_eq_nil_iff.2 (by rw [HN.out]; exact Nat.le_refl _)] at e
        unfold lplace at e
        injection e with e1 e2
        exact ⟨by simpa using e1, e2⟩
      obtain ⟨rfl, rfl⟩ := hr2
      clear hql
      go_wp2
      go_ret2
      exact ⟨rfl, HB.out⟩
variable {k : ByteArray} {pk : Nat}
theorem Ro.some_at (h : Ro w B o n nL Ak ck Av cv L) (hp : lplace k (keysL L) = (pk, true)) : ∃ u, L[pk]? = some (k, u) ∧ pk < nL ∧ getL k L = some u := by
  have h1 := (lplace_all (x := k) 0 h.srt).1
  have h4 := (lplace_all (x := k) 0 h.srt).2.2.2.1
  rw [hp] at h1 h4
  obtain ⟨u, hu⟩ := h1 rfl
  simp only at hu
  simp only [if_true, hu, Option.map_some] at h4
  exact ⟨u, hu, by have := (List.getElem?_eq_some_iff.1 hu).1; rw [h.hl] at this; exact this, h4⟩
theorem Ro.no_at (h : Ro w B o n nL Ak ck Av cv L) (hp : lplace k (keysL L) = (pk, false)) : getL k L = none := by
  have h4 := (lplace_all (x := k) 0 h.srt).2.2.2.1
  rw [hp] at h4
  exact h4
theorem Ro.pk_le (h : Ro w B o n nL Ak ck Av cv L) {pb : Bool} (hp : lplace k (keysL L) = (pk, pb)) : pk ≤ nL := by
  have := lplace_le k (keysL L)
  rw [hp, keysL_len, h.hl] at this
  exact this
theorem Ro.val_at (h : Ro w B o n nL Ak ck Av cv L) {u : Int} (hu : L[pk]? = some (k, u)) : ∃ gv, Av = some ⟨gv, 0, none⟩ ∧ w.cell? ⟨gv, pk, none⟩ = some (.int .i64 u) ∧ nL ≤ cv := by
  obtain ⟨gv, hv⟩ := h.vals
  obtain ⟨e, _, hc⟩ := hv.2 pk (.int .i64 u) (by unfold ivs valsL; rw [List.getElem?_map, List.getElem?_map, hu]; rfl)
  have := hv.1
  rw [valsL_len', h.hl] at this
  exact ⟨gv, e, hc, this⟩
set_option maxHeartbeats 1000000 in
theorem rfind_any (h : Ro w B o n nL Ak ck Av cv L) (hn : nL ≤ 1000000) (k : ByteArray) (v : Int) (hv : findO k L = v) :
    Calls Try.prog 14 #[.pointer (some ⟨o, 0, none⟩), .string k] w fun e w' => e = .returned (.int .i64 v) ∧ Below w.heap.size w w' := by
  obtain ⟨⟨pk, pb⟩, hp⟩ : ∃ r, lplace k (keysL L) = r := ⟨_, rfl⟩
  have HA := Lib.hid (at_any h hn k pk pb hp)
  have H := Lib.hid h
  have hnI : (nL : Int) ≤ 1000000 := by omega
  cases pb with
  | true =>
    obtain ⟨u, h1, h2, h3⟩ := h.some_at hp
    obtain rfl : u = v := by unfold findO at hv; rw [h3] at hv; exact hv
    have h2I : (pk : Int) < (nL : Int) := by omega
    have H1 := Lib.hid h1
    clear h hp hv h1 h3
    go_enter Try.func14, Try.ntmps14
    go_wp2_with fail
    refine HA.out.mono ?_
    rintro _ w1 ⟨rfl, hb⟩
    have c2 : w1.cell? ⟨o, 2, none⟩ = some (.slice Av nL cv) := (H.out.below hb).box.cell 2
    obtain ⟨gv, rfl, d0, _⟩ := (H.out.below hb).val_at H1.out
    have HB := Lib.hid hb
    clear hb
    go_wp2
    go_ret
    exact ⟨rfl, HB.out⟩
  | false =>
    obtain rfl : v = -1 := by unfold findO at hv; rw [h.no_at hp] at hv; exact hv.symm
    clear h hp hv
    go_enter Try.func14, Try.ntmps14
    go_wp2_with fail
    refine HA.out.mono ?_
    rintro _ w1 ⟨rfl, hb⟩
    have HB := Lib.hid hb
    clear hb
    go_wp2
    go_ret
    exact ⟨rfl, HB.out⟩
theorem rlen_any (h : Ro w B o n nL Ak ck Av cv L) : Calls Try.prog 18 #[.pointer (some ⟨o, 0, none⟩)] w fun e w' => e = .returned (.int .i64 (nL : Int)) ∧ w' = w := by
  have c1 : w.cell? ⟨o, 1, none⟩ = some (.slice Ak nL ck) := h.box.cell 1
  clear h
  go_enter Try.func18, Try.ntmps18
  go_wp2
  go_ret
  exact ⟨rfl, rfl⟩
end
theorem rnew_any (m : Int) (w : World) (n : Int) (hn : max m 1 = n) (B : Nat) (hB : B ≤ w.heap.size) : Calls Try.prog 11 #[.int .i64 m] w fun e w' => ∃ o, e = .returned (.pointer (some ⟨o, 0, none⟩)) ∧ Ro w' B o n 0 none 0 none 0 [] ∧ Below w.heap.size w w' := by
  have HN := Lib.hid hn
  clear hn
  go_enter Try.func11, Try.ntmps11
  go_wp2_with fail
  try rw [HN.out]
  go_ret
  exact ⟨w.heap.size, rfl, ⟨Blk.new w 48 _, ⟨rfl, .inl ⟨rfl, rfl⟩⟩, ⟨rfl, .inl ⟨rfl, rfl⟩⟩, rfl, hB, by simp; omega, List.Pairwise.nil⟩, (Below.refl _ w).alloc (Nat.le_refl _) _⟩
end Go.Proofs.Ytlfjhbfhnlclpaa
