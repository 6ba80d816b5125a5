/- The reference's copy: Get; are the two copies the same? -/
import Derived.Test.YtpmgabeefppajaaPc
import Derived.Deep.RegionHeld3
import Derived.Deep.DrawnRows
namespace Go.Proofs.Ytpmgabeefppajaa
open Go.RowKit
open Go.Lib
set_option linter.unusedVariables false
set_option linter.unusedSimpArgs false
set_option maxRecDepth 100000
theorem getL_at {u : ByteArray} {L : LK} {q : Nat} {p : KP} (hn : ∀ j r, j < q → L[j]? = some r → r.1 ≠ u) (hp : L[q]? = some p) (e : p.1 = u) : getL u L = some p.2 := by
  obtain ⟨hq, hp'⟩ := List.getElem?_eq_some_iff.1 hp
  have h1 : getL u (L.take q) = none := getL_none fun a ha => by
    obtain ⟨j, hj⟩ := List.mem_iff_getElem?.1 ha
    have hjq : j < q := by
      have := (List.getElem?_eq_some_iff.1 hj).1
      rw [List.length_take] at this
      omega
    rw [List.getElem?_take, if_pos hjq] at hj
    exact hn j a hjq hj
  have h2 : L = L.take q ++ p :: L.drop (q + 1) := by
    rw [← hp', ← List.drop_eq_getElem_cons hq, List.take_append_drop]
  rw [h2, getL_append, h1, getL_cons, if_pos e.symm]
  rfl
theorem getL_no {u : ByteArray} {L : LK} (hn : ∀ j r, j < L.length → L[j]? = some r → r.1 ≠ u) : getL u L = none := getL_none fun a ha => by
  obtain ⟨j, hj⟩ := List.mem_iff_getElem?.1 ha
  exact hn j a (List.getElem?_eq_some_iff.1 hj).1 hj
set_option maxHeartbeats 8000000 in
theorem rget_any {w : World} {B g : Nat} {R : Rs} (h : Oq w B g R) (hn : R.L.length ≤ 30000) (u : ByteArray) (o : Option (Int × ByteArray)) (ho : getL u R.L = o) : Calls Try.prog 15 #[.pointer (some ⟨g, 0, none⟩), .string u] w fun e w' => e = .returned (.tuple #[.int .i64 (o.getD (0, .empty)).1, .string (o.getD (0, .empty)).2, .bool o.isSome]) ∧ Below w.heap.size w w' := by
  obtain ⟨L, tk, mo⟩ := R
  obtain ⟨U, hu1, hu2⟩ := h
  simp only at hu1 hu2 hn ho
  obtain ⟨A, cap, b, rfl, hi2, -⟩ := own_its2 (xs := itsK L) (by rw [itsK_len]; exact hu2)
  rw [itsK_len] at hu1 hi2
  have HU := Lib.hid hu1
  have HI := Lib.hid hi2
  have HO := Lib.hid ho
  have hlc := hi2.le
  have g0 := hu1.cell 0
  obtain ⟨len, hlen⟩ : ∃ n, L.length = n := ⟨_, rfl⟩
  have HLN := Lib.hid hlen
  rw [hlen] at HI hn hlc g0 HU
  have hnI : (len : Int) ≤ 30000 := by omega
  clear hu1 hu2 hi2 ho hlen
  go_enter Try.func15, Try.ntmps15
  go_wp2
  clear g0
  go_loopw [7] (fun i wr => ∃ q : Nat, q ≤ len ∧ i = .int .i64 (q : Int) ∧ (∀ j r, j < q → L[j]? = some r → r.1 ≠ u) ∧ Below w.heap.size w wr) (fun i _ => len - (intOf i).toNat)
  case atStart => exact ⟨0, Nat.zero_le _, rfl, fun j r hj => absurd hj (by omega), Below.refl _ _⟩
  case round =>
    obtain ⟨q, hq, rfl, hno, hB⟩ := hrel
    have HNO := Lib.hid hno
    have HB := Lib.hid hB
    have g0 := (HU.out.below hB HU.out.lt).cell 0
    clear hno hB
    by_cases hql : q < len
    · obtain ⟨p, hp⟩ : ∃ p, L[q]? = some p := ⟨L[q]'(by rw [HLN.out]; exact hql), List.getElem?_eq_getElem _⟩
      obtain ⟨rfl, hbl⟩ := HI.out.addr (by omega)
      obtain ⟨c0, c1, c2, c3⟩ := (HI.out.below HB.out (fun _ => hbl)).cell q _ (itsK_get hp)
      have HP := Lib.hid hp
      have hqI : (q : Int) < (len : Int) := by omega
      obtain ⟨pu, pv, pc⟩ := p
      simp only [Nat.zero_add] at c0 c1 c2 c3
      clear hp hbl
      by_cases hu : pu = u
      · have hu2 : (pu.toList == u.toList) = true := by rw [hu]; simp
        have HG := Lib.hid (show o = some (pv, pc) from HO.out.symm.trans (getL_at HNO.out HP.out hu))
        clear hu
        go_wp2_with fail
        go_quiet (fail)
        have HQ := Lib.hid (below_drewN HB.out nq)
        go_wp2
        go_ret3
        exact ⟨by rw [HG.out]; rfl, HQ.out⟩
      · have hu2 : (pu.toList == u.toList) = false := by rw [keq]; exact decide_eq_false hu
        have HN := Lib.hid (show ∀ j r, j < q + 1 → L[j]? = some r → r.1 ≠ u from fun j r hj hr => by
          rcases Nat.lt_succ_iff_lt_or_eq.1 hj with h | rfl
          · exact HNO.out j r h hr
          · rw [HP.out] at hr
            cases hr
            exact hu)
        clear hu
        go_wp2
        go_roundw
        case rel => exact ⟨q + 1, by omega, by go_num, HN.out, HB.out⟩
        case measure => simp [intOf]; omega
    · obtain rfl : q = len := by omega
      have HG := Lib.hid (show o = none from HO.out.symm.trans (getL_no (by rw [HLN.out]; exact HNO.out)))
      go_wp2
      go_ret3
      exact ⟨by rw [HG.out]; rfl, HB.out⟩
theorem Kr.blk {w w' : World} {g m : Nat} {L : LK} {tk : Int} {mo : Bool} (k : Kr w w' g m) (hr : Rp w g m L tk mo) : ∀ b t cs, Blk w b t cs → t ≠ 67 → t ≠ 103 → Blk w' b t cs := fun b t cs hb h1 h2 => by
  obtain ⟨e1, e2⟩ := hr.far hb h1 h2
  exact (k.block b hb.lt e1 e2).trans hb
theorem Rp.ko {w w' : World} {g m g2 : Nat} {L : LK} {tk : Int} {mo : Bool} {cs : Array Value} (hr : Rp w g m L tk mo) (hb : Blk w g2 30 cs) (k : OK.Ko w w' g2) : Rp w' g m L tk mo := by
  obtain ⟨e1, e2⟩ := hr.far hb (by decide) (by decide)
  exact ⟨(k.block g hr.1.lt (fun e => e1 e.symm)).trans hr.1, hr.2.keep (k.block m hr.2.lt (fun e => e2 e.symm)) (k.keepN hb (by decide))⟩
/-- Two copies that stand for the same, behind n answers. -/
structure So (w wr : World) (g m g2 n : Nat) (R : Rs) : Prop where
  s : Sr w wr g m n R
  o : Oq wr w.heap.size g2 R
  hg2 : w.heap.size ≤ g2
section
variable {w wr w' : World} {g m g2 n : Nat} {R : Rs}
theorem So.step (h : So w wr g m g2 n R) (hb : Below wr.heap.size wr w') : So w w' g m g2 n R := ⟨h.s.step hb, h.o.step hb, h.hg2⟩
theorem So.drewN (h : So w wr g m g2 n R) (k : Nat) : So w (wr.drewN k) g m g2 n R := h.step (below_drewN (Below.refl _ _) k)
end
set_option maxHeartbeats 8000000 in
theorem same_any {w wr : World} {g m g2 n : Nat} {R : Rs} (h : So w wr g m g2 n R) (hn : n ≤ 100) : Calls Try.prog 11 #[.pointer (some ⟨g, 0, none⟩), .pointer (some ⟨g2, 0, none⟩)] wr fun e w' => e = .returned (.bool true) ∧ So w w' g m g2 n R := by
  have HD := Lib.hid (show So w wr.drew g m g2 n R from h.drewN 1)
  obtain ⟨U, hu1, hu2⟩ := HD.out.o
  obtain ⟨A, cap, b, rfl, hi2, -⟩ := own_its2 (xs := itsK R.L) (by rw [itsK_len]; exact hu2)
  rw [itsK_len] at hu1 hi2
  have HU := Lib.hid hu1
  have HI := Lib.hid hi2
  have HLN := Lib.hid (show R.L.length ≤ 100000 by have := h.s.len; omega)
  have g0 : wr.cell? ⟨g2, 0, none⟩ = some (.slice A R.L.length cap) := hu1.cell 0
  have g1 : wr.cell? ⟨g2, 1, none⟩ = some (.int .i64 R.tk) := hu1.cell 1
  have g3 : wr.cell? ⟨g2, 2, none⟩ = some (.bool R.mo) := hu1.cell 2
  have HT := Lib.hid (rp_token HD.out.s.rp)
  have HM := Lib.hid (rp_more HD.out.s.rp)
  have HC := Lib.hid (HD.out.s.cards hn)
  obtain ⟨L, tk, mo⟩ := R
  simp only at g0 g1 g3 HT HM HC HI HU HLN
  clear hu1 hu2 hi2 h
  go_enter Try.func11, Try.ntmps11
  go_wp2_with fail
  go_region_held3 (fun W => W.cell? ⟨g2, 0, none⟩ = some (.slice A L.length cap) ∧ W.cell? ⟨g2, 1, none⟩ = some (.int .i64 tk) ∧ W.cell? ⟨g2, 2, none⟩ = some (.bool mo)) (refine ⟨?_, ?_, ?_⟩ <;> assumption) (first
           | (go_at_call 16
              (with_reducible refine HT.out.mono ?_)
              rintro _ wz ⟨rfl, hw0⟩
              replace hw0 := hw0.symm
              subst hw0
              clear HT)
           | (go_at_call 17
              (with_reducible refine HM.out.mono ?_)
              rintro _ wz ⟨rfl, hw0⟩
              replace hw0 := hw0.symm
              subst hw0
              clear HM)
           | (go_at_call 18
              (with_reducible refine HC.out.mono ?_)
              rintro _ w4 ⟨A4, cap4, b4, rfl, hi4, hb4, _⟩
              have HI4 := Lib.hid hi4
              have HB4 := Lib.hid hb4
              have HU4 := Lib.hid (HU.out.below hb4 HU.out.lt)
              have q0 : w4.cell? ⟨g2, 0, none⟩ = some (.slice A L.length cap) := HU4.out.cell 0
              have q1 : w4.cell? ⟨g2, 1, none⟩ = some (.int .i64 tk) := HU4.out.cell 1
              have q2 : w4.cell? ⟨g2, 2, none⟩ = some (.bool mo) := HU4.out.cell 2
              clear hi4 hb4 HC)
           | (go_at_call 19
              (with_reducible refine (alike_any HI4.out (HI.out.below HB4.out (fun hl => (HI.out.addr hl).2)) HLN.out).mono ?_)
              rintro _ w5 ⟨rfl, hb5⟩
              have HB5 := Lib.hid hb5
              have HU5 := Lib.hid (HU4.out.below hb5 HU4.out.lt)
              have r0 : w5.cell? ⟨g2, 0, none⟩ = some (.slice A L.length cap) := HU5.out.cell 0
              have r1 : w5.cell? ⟨g2, 1, none⟩ = some (.int .i64 tk) := HU5.out.cell 1
              have r2 : w5.cell? ⟨g2, 2, none⟩ = some (.bool mo) := HU5.out.cell 2
              clear hb5)
           | fail)
  all_goals (
    go_wp2
    go_ret
    exact ⟨rfl, (HD.out.step HB4.out).step HB5.out⟩)
end Go.Proofs.Ytpmgabeefppajaa
