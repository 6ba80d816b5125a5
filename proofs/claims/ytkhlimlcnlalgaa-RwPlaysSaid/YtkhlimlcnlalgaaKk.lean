/- The lock, as a law knows it; first. -/
import Derived.Test.YtkhlimlcnlalgaaKj
import Derived.Test.YtkhlimlcnlalgaaLaw
import Derived.Test.YtkhlimlcnlalgaaOpen
namespace Go.Proofs.Ytkhlimlcnlalgaa
open Go.RowKit Go.Maps
open Go.ChangeShapes Go.ChangeAt
set_option linter.unusedVariables false
set_option linter.unusedSimpArgs false
set_option maxRecDepth 100000
/-- Acts that came in: two numbers each. -/
def Acts (w : World) (A : Option Addr) (len b off : Nat) (xs : Nat → Int × Int) : Prop :=
  (0 < len → A = some ⟨b, off, none⟩ ∧ b < w.heap.size) ∧ ∀ i, i < len → w.cell? ⟨b, off + i * 2, none⟩ = some (.int .i64 (xs i).1) ∧ w.cell? ⟨b, off + i * 2 + 1, none⟩ = some (.int .i64 (xs i).2) ∧ wf (xs i).2
theorem acts_of {w : World} {A : Option Addr} {len cap : Nat} (S : Sh.ok w (Sh.slice 2 (Sh.agg 2 [(0, 1, (Sh.int .i64)), (1, 1, (Sh.int .i64))])) [.slice A len cap]) :
    ∃ b off xs, len ≤ cap ∧ cap ≤ maxLen ∧ Acts w A len b off xs := by
  obtain ⟨b, off, hl, hm, hA, hc⟩ := slice_at S (by omega)
  have h : ∀ i, ∃ x : Int × Int, i < len → w.cell? ⟨b, off + i * 2, none⟩ = some (.int .i64 x.1) ∧ w.cell? ⟨b, off + i * 2 + 1, none⟩ = some (.int .i64 x.2) ∧ wf x.2 := by
    intro i
    by_cases hi : i < len
    · obtain ⟨cs, hlen, hok, hat⟩ := hc i hi
      simp only [Sh.ok, Sh.okAll] at hok
      obtain ⟨_, ⟨x, e1, w1⟩, ⟨y, e2, w2⟩, _⟩ := hok
      have hl2 : ∃ c0 c1, cs = [c0, c1] := by
        match cs, hlen with
        | [c0, c1], _ => exact ⟨c0, c1, rfl⟩
      obtain ⟨c0, c1, rfl⟩ := hl2
      simp at e1 e2
      subst e1 e2
      exact ⟨(x, y), fun _ => ⟨hat 0 (by omega), hat 1 (by omega), w2⟩⟩
    · exact ⟨(0, 0), fun h => absurd h hi⟩
  exact ⟨b, off, fun i => (h i).choose, hl, hm, hA, fun i hi => (h i).choose_spec hi⟩
theorem Acts.keep {w w' : World} {A : Option Addr} {len b off : Nat} {xs : Nat → Int × Int} (h : Acts w A len b off xs) (hb : Below w.heap.size w w') : Acts w' A len b off xs :=
  ⟨fun hl => ⟨(h.1 hl).1, Nat.lt_of_lt_of_le (h.1 hl).2 hb.size⟩, fun i hi => by
    obtain ⟨h1, h2, h3⟩ := h.2 i hi
    have hlt := (h.1 (by omega)).2
    exact ⟨by rw [hb.cell (p := ⟨b, _, none⟩) hlt]; exact h1, by rw [hb.cell (p := ⟨b, _, none⟩) hlt]; exact h2, h3⟩⟩
/-- A row that holds something: where it lies. -/
theorem row_slice {w : World} {B : Nat} {V : Value} {n : Nat} {vs : List Value} (h : w.ownsRow B 3 1 V n vs) (hn : 0 < n) : ∃ g cap, V = .slice (some ⟨g, 0, none⟩) n cap ∧ n ≤ cap ∧ cap ≤ maxLen ∧ g < w.heap.size ∧ B ≤ g ∧ ∀ j u, vs[j]? = some u → w.cell? ⟨g, j, none⟩ = some u ∧ w.frozen? ⟨g, j, none⟩ = false := by
  obtain ⟨h0, ⟨_, h2⟩ | ⟨b, cap, cur, rfl, e2, e3, e4, e5, e6, e7⟩⟩ := h
  · omega
  · have hlt : b < w.heap.size := by
      rcases Nat.lt_or_ge b w.heap.size with hlt | hge
      · exact hlt
      · rw [Array.getElem?_eq_none hge] at e3; cases e3
    refine ⟨b, cap, rfl, e4, e5, hlt, e2, fun j u hj => ⟨?_, by simp [World.frozen?, e3]⟩⟩
    rw [cell_of_row w b j cur 3 (0, 0) e3]
    rw [Nat.mul_one] at h0 e7
    have hl := (List.getElem?_eq_some_iff.1 hj).1
    rw [← e7, List.getElem?_take, if_pos (by omega)] at hj
    rw [← Array.getElem?_toList]; exact hj
theorem ivs_get {l : List Int} {j : Nat} (hj : j < l.length) : (ivs l)[j]? = some (.int .i64 (l.getD j 0)) := by
  unfold ivs
  rw [List.getElem?_map, List.getD_eq_getElem?_getD, List.getElem?_eq_getElem hj]
  rfl
/-- Numbers that lie in memory. -/
structure Nl (w : World) (A : Option Addr) (cap g : Nat) (ys : List Int) : Prop where
  le : ys.length ≤ cap
  cell : ∀ (j : Nat) (x : Int), ys[j]? = some x → A = some ⟨g, 0, none⟩ ∧ g < w.heap.size ∧ w.cell? ⟨g, j, none⟩ = some (.int .i64 x)
theorem Nl.below {w w' : World} {A : Option Addr} {cap g : Nat} {ys : List Int} (h : Nl w A cap g ys) (hb : Below w.heap.size w w') : Nl w' A cap g ys :=
  ⟨h.le, fun j x hj => by
    obtain ⟨h1, h2, h3⟩ := h.cell j x hj
    exact ⟨h1, Nat.lt_of_lt_of_le h2 hb.size, (World.cell?_of_block (a := ⟨g, j, none⟩) (hb.block g h2)).trans h3⟩⟩
set_option maxHeartbeats 4000000 in
theorem ints_same {w : World} {A B : Option Addr} {capA capB ga gb : Nat} {ys : List Int} (h : Nl w A capA ga ys) (k : Nl w B capB gb ys) (hn : ys.length ≤ 1000000) : Calls Try.prog 11 #[.slice A ys.length capA, .slice B ys.length capB] w fun r w' => r = .returned (.bool true) ∧ Below w.heap.size w w' := by
  have HA := Lib.hid h
  have HB := Lib.hid k
  have hla := h.le
  have hlb := k.le
  have hnI : (ys.length : Int) ≤ 1000000 := by omega
  have H0 := Lib.hid (Below.refl w.heap.size w)
  clear h k
  go_enter Try.func11, Try.ntmps11
  go_wp2
  go_loopw [5] (fun i wr => ∃ q : Nat, q ≤ ys.length ∧ i = .int .i64 (q : Int) ∧ Below w.heap.size w wr) (fun i _ => ys.length - (intOf i).toNat)
  case atStart => exact ⟨0, Nat.zero_le _, rfl, H0.out⟩
  case round =>
    obtain ⟨q, hq, rfl, hB⟩ := hrel
    have HR := Lib.hid hB
    clear hB
    by_cases hql : q < ys.length
    · obtain ⟨x, hx⟩ : ∃ x, ys[q]? = some x := ⟨ys[q], List.getElem?_eq_getElem _⟩
      obtain ⟨rfl, b1, c1⟩ := (HA.out.below HR.out).cell q x hx
      obtain ⟨rfl, b2, c2⟩ := (HB.out.below HR.out).cell q x hx
      have hqI : (q : Int) < (ys.length : Int) := by omega
      clear hx
      go_wp2_with fail
      go_quiet (fail)
      have HQ := Lib.hid (below_drewN HR.out nq)
      go_wp2
      go_roundw
      case rel => exact ⟨q + 1, by omega, by go_num, HQ.out⟩
      case measure => simp [intOf]; omega
    · obtain rfl : q = ys.length := by omega
      go_wp2
      go_ret
      exact ⟨rfl, HR.out⟩
theorem nl_row {w : World} {B : Nat} {V : Value} {l : List Int} (h : w.ownsRow B 3 1 V l.length (ivs l)) : ∃ A cap g, V = .slice A l.length cap ∧ Nl w A cap g l := by
  rcases Nat.eq_zero_or_pos l.length with h0 | h0
  · have hnil : l = [] := List.length_eq_zero_iff.1 h0
    subst hnil
    obtain ⟨_, ⟨rfl, _⟩ | ⟨b, c, cur, rfl, _⟩⟩ := h
    · exact ⟨none, 0, 0, rfl, Nat.zero_le _, fun j x hj => by cases hj⟩
    · exact ⟨_, _, 0, rfl, Nat.zero_le _, fun j x hj => by cases hj⟩
  · obtain ⟨g, cap, rfl, h1, h2, h3, _, h4⟩ := row_slice h h0
    refine ⟨_, cap, g, rfl, h1, fun j x hj => ⟨rfl, h3, (h4 j _ ?_).1⟩⟩
    unfold ivs
    rw [List.getElem?_map, hj]; rfl
theorem ints_row {w : World} {B C : Nat} {V U : Value} {l : List Int} (h : w.ownsRow B 3 1 V l.length (ivs l)) (k : w.ownsRow C 3 1 U l.length (ivs l)) (hn : l.length ≤ 1000000) : Calls Try.prog 11 #[V, U] w fun r w' => r = .returned (.bool true) ∧ Below w.heap.size w w' := by
  obtain ⟨A, ca, ga, rfl, h1⟩ := nl_row h
  obtain ⟨A', cb, gb, rfl, h2⟩ := nl_row k
  exact ints_same h1 h2 hn
/-- One step each: what is left. -/
def askQ (Q H : List Pq) (x : Int) (wr : Bool) : List Pq := if stL Q H x = 0 then mvQ (Q ++ [(x, willOf wr)]) H else Q
def askH (Q H : List Pq) (x : Int) (wr : Bool) : List Pq := if stL Q H x = 0 then mvH (Q ++ [(x, willOf wr)]) H else H
def askR (Q H : List Pq) (x : Int) (wr : Bool) : Bool := if stL Q H x = 0 then stL (mvQ (Q ++ [(x, willOf wr)]) H) (mvH (Q ++ [(x, willOf wr)]) H) x != 1 else false
/-- What is left ahead of the move. -/
def preQ (Q H : List Pq) (x : Int) : List Pq := if (lkh x H).isSome = true then Q else if qhas x Q = true then leaveQ Q x else Q
def preH (H : List Pq) (x : Int) : List Pq := if (lkh x H).isSome = true then delH H x else H
def lvQ (Q H : List Pq) (x : Int) : List Pq := if stL Q H x = 0 then Q else mvQ (preQ Q H x) (preH H x)
def lvH (Q H : List Pq) (x : Int) : List Pq := if stL Q H x = 0 then H else mvH (preQ Q H x) (preH H x)
def lvC (Q H : List Pq) (x : Int) : List Int := if stL Q H x = 0 then [] else mvC (preQ Q H x) (preH H x)
section
variable {w w' : World} {R b B n : Nat} {V V' : Value} {D D' : VD} {Q H : List Pq}
theorem Lb.mono (h : Lb w R b B n V D Q H) {m : Nat} (hm : n ≤ m) : Lb w R b B m V D Q H := { h with len := Nat.le_trans h.len hm }
theorem ask_any (h : Lb w R b B n V D Q H) (hn : n < 1000) (x : Int) (hx : wf x) (wr : Bool) : Calls Try.prog 9 #[.pointer (some ⟨R, 0, none⟩), .int .i64 x, .bool wr] w fun e w' => ∃ V' D', e = .returned (.bool (askR Q H x wr)) ∧ Lb w' R b B (n + 1) V' D' (askQ Q H x wr) (askH Q H x wr) ∧ Kl w w' R b V V' := by
  unfold askR askQ askH
  by_cases hs : stL Q H x = 0
  · rw [if_pos hs, if_pos hs, if_pos hs]
    exact ask_yes h hn x hx wr hs
  · rw [if_neg hs, if_neg hs, if_neg hs]
    refine (ask_no h (by omega) x hx wr hs).mono ?_
    rintro _ w' ⟨rfl, h1⟩
    exact ⟨V, D, rfl, (h.kept h1).mono (by omega), Kl.of h1⟩
theorem leave_any (h : Lb w R b B n V D Q H) (hn : n ≤ 1000) (x : Int) (hx : wf x) : Calls Try.prog 12 #[.pointer (some ⟨R, 0, none⟩), .int .i64 x] w fun e w' => ∃ U V' D', e = .returned U ∧ Lb w' R b B n V' D' (lvQ Q H x) (lvH Q H x) ∧ w'.ownsRow w.heap.size 3 1 U (lvC Q H x).length (ivs (lvC Q H x)) ∧ Kl w w' R b V V' := by
  unfold lvQ lvH lvC
  by_cases hs : stL Q H x = 0
  · rw [if_pos hs, if_pos hs, if_pos hs]
    refine (leave_none h hn x hx hs).mono ?_
    rintro _ w' ⟨rfl, h1⟩
    exact ⟨_, V, D, rfl, h.kept h1, World.ownsRow_nil _ _ _ _, Kl.of h1⟩
  · rw [if_neg hs, if_neg hs, if_neg hs]
    unfold preQ preH
    by_cases hl : (lkh x H).isSome = true
    · rw [if_pos hl, if_pos hl]
      exact leave_hold h hn x hx hl
    · have hl0 : lkh x H = none := by
        cases e : lkh x H with
        | none => rfl
        | some v => rw [e] at hl; exact absurd rfl hl
      have hq : qhas x Q = true := by
        cases e : qhas x Q with
        | true => rfl
        | false =>
          exfalso
          apply hs
          unfold stL
          rw [hl0, e]
          rfl
      rw [if_neg hl, if_neg hl, if_pos hq]
      exact leave_wait h hn x hx hl0 hq
def Lw (w0 w : World) (R b n : Nat) (Q H : List Pq) : Prop := ∃ V D, Lb w R b w0.heap.size n V D Q H ∧ Below w0.heap.size w0 w
variable {w0 : World}
theorem Lw.bel (h : Lw w0 w R b n Q H) : Below w0.heap.size w0 w := by
  obtain ⟨V, D, _, h⟩ := h
  exact h
theorem Lw.lenb (h : Lw w0 w R b n Q H) : H.length + Q.length ≤ n := by
  obtain ⟨V, D, h, _⟩ := h
  exact h.len
theorem Lw.kept (h : Lw w0 w R b n Q H) (hb : Below w.heap.size w w') : Lw w0 w' R b n Q H := by
  obtain ⟨V, D, h1, h2⟩ := h
  exact ⟨V, D, h1.kept hb, h2.trans (hb.mono h2.size)⟩
theorem Kl.below (h : Lb w R b B n V D Q H) (hk : Kl w w' R b V V') (hB : B ≤ w.heap.size) : Below B w w' :=
  ⟨hk.os, hk.tape, hk.output, hk.size, fun j hj => hk.block j (by omega) (fun hm => by have := h.low hm; omega)⟩
theorem lw_new (w : World) : Calls Try.prog 8 #[] w fun e w' => ∃ R b, e = .returned (.pointer (some ⟨R, 0, none⟩)) ∧ Lw w w' R b 0 [] [] := by
  refine (new_any w).mono ?_
  rintro _ w' ⟨R, b, V, D, rfl, h1, h2⟩
  exact ⟨R, b, rfl, V, D, h1, h2⟩
theorem lw_ask (h : Lw w0 w R b n Q H) (hn : n < 1000) (x : Int) (hx : wf x) (wr : Bool) (r : Bool) (hr : askR Q H x wr = r) : Calls Try.prog 9 #[.pointer (some ⟨R, 0, none⟩), .int .i64 x, .bool wr] w fun e w' => e = .returned (.bool r) ∧ Lw w0 w' R b (n + 1) (askQ Q H x wr) (askH Q H x wr) := by
  obtain ⟨V, D, h1, h2⟩ := h
  refine (ask_any h1 hn x hx wr).mono ?_
  rintro _ w' ⟨V', D', rfl, h3, h4⟩
  rw [hr]
  exact ⟨rfl, V', D', h3, h2.trans (h4.below h1 h2.size)⟩
theorem lw_leave (h : Lw w0 w R b n Q H) (hn : n ≤ 1000) (x : Int) (hx : wf x) (l : List Int) (hl : lvC Q H x = l) : Calls Try.prog 12 #[.pointer (some ⟨R, 0, none⟩), .int .i64 x] w fun e w' => ∃ U, e = .returned U ∧ Lw w0 w' R b n (lvQ Q H x) (lvH Q H x) ∧ w'.ownsRow w.heap.size 3 1 U l.length (ivs l) := by
  obtain ⟨V, D, h1, h2⟩ := h
  refine (leave_any h1 hn x hx).mono ?_
  rintro _ w' ⟨U, V', D', rfl, h3, h4, h5⟩
  rw [hl] at h4
  exact ⟨U, rfl, ⟨V', D', h3, h2.trans (h5.below h1 h2.size)⟩, h4⟩
theorem lw_state (h : Lw w0 w R b n Q H) (hn : n ≤ 1000) (x : Int) (hx : wf x) (s : Int) (hs : stL Q H x = s) : Calls Try.prog 14 #[.pointer (some ⟨R, 0, none⟩), .int .i64 x] w fun e w' => e = .returned (.int .i64 s) ∧ Below w.heap.size w w' := by
  obtain ⟨V, D, h1, h2⟩ := h
  rw [← hs]
  exact state_any h1 hn x hx
theorem lw_hold (h : Lw w0 w R b n Q H) (hn : n ≤ 1000) (l : List Int) (hl : srtK H = l) : Calls Try.prog 16 #[.pointer (some ⟨R, 0, none⟩)] w fun e w' => ∃ U, e = .returned U ∧ w'.ownsRow w.heap.size 3 1 U l.length (ivs l) ∧ Below w.heap.size w w' := by
  obtain ⟨V, D, h1, h2⟩ := h
  rw [← hl]
  exact hold_any h1 hn
theorem lw_queue (h : Lw w0 w R b n Q H) (hn : n ≤ 1000) (l : List Int) (hl : keysOf Q = l) : Calls Try.prog 18 #[.pointer (some ⟨R, 0, none⟩)] w fun e w' => ∃ U, e = .returned U ∧ w'.ownsRow w.heap.size 3 1 U l.length (ivs l) ∧ Below w.heap.size w w' := by
  obtain ⟨V, D, h1, h2⟩ := h
  rw [← hl]
  exact queue_any h1 hn
theorem wf1 : wf 1 := by unfold wf; decide
theorem wf2 : wf 2 := by unfold wf; decide
theorem wf3 : wf 3 := by unfold wf; decide
theorem one_row {w : World} {g B : Nat} {x : Int} (h : Blk w g 3 #[.int .i64 x]) (hB : B ≤ g) : w.ownsRow B 3 1 (.slice (some ⟨g, 0, none⟩) 1 1) 1 (ivs [x]) :=
  ⟨rfl, .inr ⟨g, 1, _, rfl, hB, h, by decide, by decide, rfl, rfl⟩⟩
end
set_option maxHeartbeats 4000000 in
theorem first_any (w : World) : Calls Try.prog 7 #[] w fun e w' => e = .returned (.bool true) ∧ Below w.heap.size w w' := by
  go_enter Try.func7, Try.ntmps7
  go_wp2_with fail
  refine (lw_new _).mono ?_
  rintro _ w1 ⟨R, b, rfl, h1⟩
  have H1 := Lib.hid h1
  clear h1
  go_wp2_with fail
  refine (lw_ask H1.out (by decide) 1 wf1 false true (by decide)).mono ?_
  rintro _ w2 ⟨rfl, h1⟩
  have H2 := Lib.hid (show Lw w w2 R b 1 [] [(1, 2)] from h1)
  clear h1
  go_wp2_with fail
  refine (lw_ask H2.out (by decide) 2 wf2 true false (by decide)).mono ?_
  rintro _ w3 ⟨rfl, h1⟩
  have H3 := Lib.hid (show Lw w w3 R b 2 [(2, 3)] [(1, 2)] from h1)
  clear h1
  go_wp2_with fail
  refine (lw_ask H3.out (by decide) 3 wf3 false false (by decide)).mono ?_
  rintro _ w4 ⟨rfl, h1⟩
  have H4 := Lib.hid (show Lw w w4 R b 3 [(2, 3), (3, 2)] [(1, 2)] from h1)
  clear h1
  go_wp2_with fail
  refine (lw_leave H4.out (by decide) 1 wf1 [2] (by decide)).mono ?_
  rintro _ w5 ⟨U, rfl, h1, h2⟩
  have H5 := Lib.hid (show Lw w w5 R b 3 [(3, 2)] [(2, 3)] from h1)
  have HU := Lib.hid h2
  clear h1 h2
  go_wp2_with fail
  refine (ints_row (row_alloc HU.out _) (one_row (B := 0) (Blk.new w5 3 _) (Nat.zero_le _)) (by decide)).mono ?_
  rintro _ w6 ⟨rfl, h1⟩
  have H6 := Lib.hid ((H5.out.kept ((Below.refl _ _).alloc (Nat.le_refl _) _)).kept h1)
  clear h1
  go_wp2_with fail
  refine (lw_state H6.out (by decide) 2 wf2 3 (by decide)).mono ?_
  rintro _ w7 ⟨rfl, h1⟩
  have H7 := Lib.hid (H6.out.kept h1)
  clear h1
  go_wp2_with fail
  refine (lw_state H7.out (by decide) 3 wf3 1 (by decide)).mono ?_
  rintro _ w8 ⟨rfl, h1⟩
  have H8 := Lib.hid (H7.out.kept h1)
  clear h1
  go_wp2
  go_ret
  exact ⟨rfl, H8.out.bel⟩
end Go.Proofs.Ytkhlimlcnlalgaa
