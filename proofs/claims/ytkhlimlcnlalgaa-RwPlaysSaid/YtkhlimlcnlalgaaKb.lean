/- The lock's place in the queue; its State. -/
import Derived.Test.YtkhlimlcnlalgaaKa
namespace Go.Proofs.Ytkhlimlcnlalgaa
open Go.RowKit Go.Maps
set_option linter.unusedVariables false
set_option linter.unusedSimpArgs false
set_option maxRecDepth 100000
/-- The first place of x, or the length. -/
def qpl (x : Int) : List Pq → Nat
  | [] => 0
  | p :: Q => if p.1 = x then 0 else qpl x Q + 1
def qhas (x : Int) (Q : List Pq) : Bool := Q.any fun p => p.1 == x
def qidx (x : Int) (Q : List Pq) : Int := if qhas x Q = true then (qpl x Q : Int) else -1
theorem qpl_skip (x : Int) : ∀ (Q : List Pq) (q : Nat) (p : Pq), (∀ t ∈ Q.take q, t.1 ≠ x) → Q[q]? = some p → p.1 = x → qpl x Q = q ∧ qhas x Q = true
  | [], q, s, _, h, _ => by simp at h
  | t :: Q, 0, s, _, h, hx => by
    cases h
    unfold qpl qhas
    rw [if_pos hx]
    simp [hx]
  | t :: Q, q + 1, s, h1, h, hx => by
    have e : t.1 ≠ x := h1 t (by simp)
    obtain ⟨i1, i2⟩ := qpl_skip x Q q s (fun r hr => h1 r (by simp [hr])) (by simpa using h) hx
    unfold qpl
    rw [if_neg e, i1]
    refine ⟨rfl, ?_⟩
    unfold qhas at *
    rw [List.any_cons, i2]; simp
theorem qhas_none {x : Int} {Q : List Pq} (h : ∀ t ∈ Q, t.1 ≠ x) : qhas x Q = false := by
  unfold qhas
  rw [List.any_eq_false]
  intro t ht
  simpa using h t ht
theorem closure_any {w : World} {g : Nat} {x : Int} (hg : w.cell? ⟨g, 0, none⟩ = some (.int .i64 x)) (p : Pq) : Calls Try.prog 30 #[.agg #[.int .i64 p.1, .int .i64 p.2], .pointer (some ⟨g, 0, none⟩)] w fun e w' => e = .returned (.bool (p.1 == x)) ∧ Below w.heap.size w w' := by
  have hl := cell_lt hg
  have hl : g < w.heap.size := hl
  have hne : ¬ g = w.heap.size := by omega
  have hB := Lib.hid ((Below.refl w.heap.size w).alloc (Nat.le_refl _) (.cells #[.int .i64 p.1, .int .i64 p.2] 46))
  have hc : (w.alloc (.cells #[.int .i64 p.1, .int .i64 p.2] 46)).cell? ⟨g, 0, none⟩ = some (.int .i64 x) := (World.cell?_of_block (a := ⟨g, 0, none⟩) (Below.heap_alloc w _ g hl)).trans hg
  go_enter Try.func30, Try.ntmps30
  go_wp2
  go_ret
  exact ⟨rfl, hB.out⟩
section
variable {w W : World} {B : Nat} {V : Value} {Q : List Pq}
theorem Qr.below (h : Qr w B V Q) (hb : Below w.heap.size w W) : Qr W B V Q := h.keep (fun j hj => hb.block j (h.lt hj).2)
set_option maxHeartbeats 4000000 in
theorem find_any (h : Qr w B V Q) (hn : Q.length ≤ 1000000) {g : Nat} {x : Int} (hg : w.cell? ⟨g, 0, none⟩ = some (.int .i64 x)) : Calls Try.prog 29 #[V, .func (.func 30) #[] #[.pointer (some ⟨g, 0, none⟩)]] w fun e w' => e = .returned (.int .i64 (qidx x Q)) ∧ Below w.heap.size w w' := by
  have HH := Lib.hid h
  have HG := Lib.hid hg
  obtain ⟨A, cap, rfl, hcap⟩ := h.sl
  have hnI : (Q.length : Int) ≤ 1000000 := by omega
  have hgl : g < w.heap.size := cell_lt hg
  obtain ⟨r, hr⟩ : ∃ r, qidx x Q = r := ⟨_, rfl⟩
  have HL := Lib.hid hr
  rw [hr]
  have H0 := Lib.hid (Below.refl w.heap.size w)
  clear hr h hg
  go_enter Try.func29, Try.ntmps29
  go_wp2
  go_loopw [8] (fun i wr => ∃ q : Nat, q ≤ Q.length ∧ i = .int .i64 (q : Int) ∧ (∀ p ∈ Q.take q, p.1 ≠ x) ∧ Below w.heap.size w wr) (fun i _ => Q.length - (intOf i).toNat)
  case atStart => exact ⟨0, Nat.zero_le _, rfl, by simp, H0.out⟩
  case round =>
    obtain ⟨q, hq, rfl, hall, hb⟩ := hrel
    have HA := Lib.hid hall
    have HB := Lib.hid hb
    by_cases hql : q < Q.length
    · obtain ⟨p, hp⟩ : ∃ p, Q[q]? = some p := ⟨Q[q], List.getElem?_eq_getElem hql⟩
      obtain ⟨b, off, cap', e0, _, _, d1, d2⟩ := (HH.out.below hb).at hp
      cases e0
      have hqI : (q : Int) < (Q.length : Int) := by omega
      have HT := Lib.hid (show Q.take (q + 1) = Q.take q ++ [p] from by rw [List.take_add_one, hp]; rfl)
      have HPQ := Lib.hid hp
      have HCL := Lib.hid (closure_any ((hb.cell (p := ⟨g, 0, none⟩) hgl).trans HG.out) p)
      clear hall hb hp
      by_cases hx : p.1 = x
      · have HR := Lib.hid (show r = (q : Int) by
          rw [← HL.out]
          obtain ⟨i1, i2⟩ := qpl_skip x Q q p HA.out HPQ.out hx
          unfold qidx
          rw [if_pos i2, i1])
        have HX : (p.1 == x) = true := by simpa using hx
        rw [HX] at HCL
        clear hx HX
        go_wp2_with (first
          | (go_at_call 30; (with_reducible refine (HCL.out).mono ?_); rintro _ w5 ⟨rfl, h1⟩; have HB5 := Lib.hid (HB.out.trans (h1.mono HB.out.size)); clear h1)
          | fail)
        go_ret
        rw [HR.out]
        exact ⟨rfl, HB5.out⟩
      · have HX : (p.1 == x) = false := by simpa using hx
        rw [HX] at HCL
        have HN := Lib.hid (show ∀ t ∈ Q.take (q + 1), t.1 ≠ x by
          rw [HT.out]
          intro t ht
          rcases List.mem_append.1 ht with ht | ht
          · exact HA.out t ht
          · rw [List.mem_singleton.1 ht]; exact hx)
        clear hx HX
        go_wp2_with (first
          | (go_at_call 30; (with_reducible refine (HCL.out).mono ?_); rintro _ w5 ⟨rfl, h1⟩; have HB5 := Lib.hid (HB.out.trans (h1.mono HB.out.size)); clear h1)
          | fail)
        go_roundw
        case rel => exact ⟨q + 1, by omega, by go_num, HN.out, HB5.out⟩
        case measure => simp [intOf]; omega
    · obtain rfl : q = Q.length := by omega
      have H1 := Lib.hid (show r = -1 by
        rw [← HL.out]
        rw [List.take_length] at hall
        unfold qidx
        rw [qhas_none hall]
        rfl)
      clear hall hb
      go_wp2
      go_ret
      rw [H1.out]
      exact ⟨rfl, HB.out⟩
theorem place_any {R b : Nat} {wb : Bool} (hbx : Blk w R 44 #[V, .map (some b), .bool wb]) (h : Qr w B V Q) (hn : Q.length ≤ 1000000) (x : Int) : Calls Try.prog 23 #[.pointer (some ⟨R, 0, none⟩), .int .i64 x] w fun e w' => e = .returned (.int .i64 (qidx x Q)) ∧ Below w.heap.size w w' := by
  have hA := (Below.refl w.heap.size w).alloc (Nat.le_refl _) (.cells #[.int .i64 x] 3)
  have hbx2 : Blk (w.alloc (.cells #[.int .i64 x] 3)) R 44 #[V, .map (some b), .bool wb] := (Below.heap_alloc w _ R hbx.lt).trans hbx
  have c0 := hbx2.cell 0
  have HF := Lib.hid (find_any (h.below hA) hn (x := x) ((Blk.new w 3 #[.int .i64 x]).cell 0))
  have HA := Lib.hid hA
  obtain ⟨A, cap, rfl, _⟩ := h.sl
  clear h hA hbx hbx2
  go_enter Try.func23, Try.ntmps23
  go_wp2_with (first
    | (go_at_call 29; (with_reducible refine (HF.out).mono ?_); rintro _ w5 ⟨rfl, h1⟩; have HB5 := Lib.hid (HA.out.trans (h1.mono HA.out.size)); clear h1)
    | fail)
  go_ret
  exact ⟨rfl, HB5.out⟩
end
end Go.Proofs.Ytkhlimlcnlalgaa
