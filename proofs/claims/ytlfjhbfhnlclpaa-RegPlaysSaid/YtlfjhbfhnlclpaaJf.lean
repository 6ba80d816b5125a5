/- The registry: Len, walked. -/
import Derived.Test.YtlfjhbfhnlclpaaJe
import Derived.Maps.RangeWalk
import Derived.Maps.Ext
namespace Go.Proofs.Ytlfjhbfhnlclpaa
open Go.RowKit Go.Maps
open Go.Proofs
open Go.Lib
set_option linter.unusedVariables false
set_option linter.unusedSimpArgs false
set_option maxRecDepth 100000
theorem filter_or_perm {α : Type} {p q r : α → Bool} (h : ∀ a, r a = (p a || q a)) (hd : ∀ a, q a = true → p a = false) : ∀ l : List α, (l.filter r).Perm (l.filter p ++ l.filter q)
  | [] => .refl _
  | a :: l => by
    have ih := filter_or_perm h hd l
    rw [List.filter_cons, List.filter_cons, List.filter_cons, h]
    by_cases hq : q a = true
    · have hp := hd a hq
      simp only [hp, hq, Bool.false_or, if_true, Bool.false_eq_true, if_false]
      exact (List.Perm.cons a ih).trans (List.perm_middle.symm)
    · by_cases hp : p a = true
      · simp only [hp, hq, Bool.true_or, if_true, Bool.false_eq_true, if_false, List.cons_append]
        exact List.Perm.cons a ih
      · simp only [hp, hq, Bool.or_false, Bool.false_eq_true, if_false]
        exact ih
/-- The names whose shard has been met. -/
def met (n : Int) (left : Lit → Bool) (q : ByteArray × Int) : Bool := !left (.int .i64 (shd n q.1))
theorem met_step {n x : Int} {left : Lit → Bool} (hx : left (.int .i64 x) = true) (L : LN) : (L.filter (met n (fun z => left z && !z.sameKey (.int .i64 x)))).Perm (L.filter (met n left) ++ L.filter (inS n x)) := by
  refine filter_or_perm (fun a => ?_) (fun a ha => ?_) L
  · unfold met inS
    simp only [same_key]
    by_cases e : shd n a.1 = x
    · simp [e]
    · simp [e]
  · unfold inS at ha
    unfold met
    rw [beq_iff_eq.1 ha, hx]
    rfl
section
variable {w : World} {r M c : Nat} {n : Int} {E : List (Int × Nat)} {L : LN}
/-- An entry of the map: a shard, and its map's box. -/
theorem Rgs.entry (h : Rgs w r M n E L c) {D : VD} (hD : Vm w M D) {x : Int} {v : Value} {kl : Lit} {y : VD × List MemPlace} (hkey : keyOf Try.prog 3 (.int .i64 x) = some kl) (hv : RV v = some y) (hat : ∀ zd, D.atKey kl zd = y.1) :
    kl = .int .i64 x ∧ ∃ g, v = ptr g ∧ (x, g) ∈ E := by
  obtain ⟨x', e1, e2, hw⟩ := Maps.keyOf_int_inv Try.underlying3 hkey
  cases e1
  subst e2
  obtain ⟨D0, m1, m2, _⟩ := h.map
  obtain rfl := vm_one m1 hD
  cases hv
  have := m2 x
  unfold vl at this
  rw [hat .nil] at this
  simp only at this
  cases hl : lkS x E with
  | none => rw [hl] at this; cases this
  | some g =>
    rw [hl] at this
    exact ⟨rfl, g, Option.some.inj this, lk_mem hl⟩
theorem Rgs.met0 (h : Rgs w r M n E L c) {D : VD} (hD : Vm w M D) : L.filter (met n (Maps.has D)) = [] := by
  refine List.filter_eq_nil_iff.2 (fun q hq => ?_)
  obtain ⟨g, hg⟩ := h.cov q hq
  obtain ⟨D0, m1, m2, _⟩ := h.map
  obtain rfl := vm_one m1 hD
  unfold met
  rw [m1.vd.has, m2, lk_of h.nd hg]
  simp
set_option maxHeartbeats 4000000 in
theorem len_reg (h : Rgs w r M n E L c) (hc : c ≤ 30000) (m : Nat) (hm : L.length = m) : Calls Try.prog 17 #[.pointer (some ⟨r, 0, none⟩)] w fun e w' => e = .returned (.int .i64 (m : Int)) ∧ Below w.heap.size w w' := by
  have c1 : w.cell? ⟨r, 1, none⟩ = some (.map (some M)) := h.box.cell 1
  obtain ⟨D, hD, -⟩ := h.map
  have HO := Lib.hid hD.owns
  have HD := Lib.hid hD
  have HH := Lib.hid h
  have HM := Lib.hid hm
  have hml : m ≤ 30000 := by have := h.ll; omega
  clear h hD hm
  go_enter Try.func17, Try.ntmps17
  go_wp2_with (first
    | (at_range; refine wpList_range_own _ rfl _ 43 rfl 3 51 K3 Try.underlying43 RV M _ _ rfl HO.out ?_; intro w1 hrg hg1 hs1)
    | fail)
  go_frame
  have HB1 := Lib.hid (show Below w.heap.size w w1 from ⟨hg1.os, hg1.tape, hg1.output, hg1.size, fun j hj => hg1.block j hj (by simp)⟩)
  have HR1 := Lib.hid hrg
  clear hrg hg1 hs1
  go_loopw [3] (fun nn wr => ∃ left cnt, nn = .int .i64 (((L.filter (met n left)).length : Nat) : Int) ∧ wr.ranges Try.prog 3 RV M w.heap.size (Maps.size D) D left cnt ∧ Below w.heap.size w wr) (fun _ wr => wr.rangeLeft M w.heap.size)
  case atStart => exact ⟨_, _, by rw [HH.out.met0 HD.out]; rfl, HR1.out, HB1.out⟩
  case round =>
    obtain ⟨left, cnt, rfl, hrg, hb⟩ := hrel
    have HRG := Lib.hid hrg
    have HB := Lib.hid hb
    clear hb
    go_wp2_with (first
      | (at_next; refine wpList_next_ranges _ rfl _ rfl 3 K3 RV (Value.int .i64) (fun v : Value => v) (fun key kl hkey => by obtain ⟨x, rfl, _⟩ := Maps.keyOf_int_inv Try.underlying3 hkey; exact ⟨x, rfl⟩) (fun v y hv => ⟨v, rfl⟩) M w.heap.size (Maps.size D) D left cnt rfl hrg ?c1 ?c2)
      | fail)
    case c1 =>
      intro _ hl0
      have e : L.filter (met n left) = L := List.filter_eq_self.2 (fun q _ => by unfold met; rw [hl0]; rfl)
      rw [e, HM.out]
      clear hrg hl0 e
      go_wp2
      go_ret
      exact ⟨rfl, HB.out⟩
    case c2 =>
      intro x v kl yd yp w2 cnt2 hkey hlk hv hat hrg2 hlt hgr hsz hen
      have hR := HH.out.below HB.out
      obtain ⟨rfl, g, rfl, hgE⟩ := HH.out.entry HD.out hkey hv hat
      have hB2 : Below w.heap.size w w2 := HB.out.grown hgr HB.out.size (fun k e => by cases e; exact Nat.le_refl _)
      have HB2 := Lib.hid hB2
      have hl := ON.om_len ((HH.out.below hB2).oms _ hgE)
      simp only at hl
      obtain ⟨k, hk⟩ : ∃ k, (L.filter (inS n x)).length = k := ⟨_, rfl⟩
      rw [hk] at hl
      have HL := Lib.hid hl
      obtain ⟨u, hu⟩ : ∃ u, (L.filter (met n left)).length = u := ⟨_, rfl⟩
      have HMS := Lib.hid (show (L.filter (met n (fun z => left z && !z.sameKey (.int .i64 x)))).length = u + k by rw [(met_step hlk L).length_eq, List.length_append, hu, hk])
      have hule : u + k ≤ 30000 := by rw [← HMS.out]; exact Nat.le_trans (List.length_filter_le _ _) (by have := HM.out; omega)
      rw [hu]
      have HG2 := Lib.hid hrg2
      have HLT := Lib.hid hlt
      simp only [ptr] at hen ⊢
      have hukI : (u : Int) + (k : Int) ≤ 30000 := by omega
      clear hrg hkey hlk hv hat hrg2 hlt hgr hsz hB2 hl hk hu hR
      go_wp2_with fail
      refine HL.out.mono ?_
      rintro _ wz ⟨rfl, hw0⟩
      replace hw0 := hw0.symm
      subst hw0
      go_wp2_with fail
      go_roundw
      case rel => exact ⟨_, cnt2, by rw [HMS.out]; push_cast; rfl, HG2.out, HB2.out⟩
      case measure => rw [HG2.out.left_eq, HRG.out.left_eq]; exact HLT.out
end
end Go.Proofs.Ytlfjhbfhnlclpaa
