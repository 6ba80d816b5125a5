/- The law's acts; Ints at equal rows; a hub that was made. -/
import Derived.Test.YtgfaegnpogdneaaHt
import Derived.Test.YtgfaegnpogdneaaLaw
import Derived.Test.YtgfaegnpogdneaaOpen
namespace Go.Proofs.Ytgfaegnpogdneaa
open Go.RowKit Go.Maps
open Go.ChangeShapes Go.ChangeAt
set_option linter.unusedVariables false
set_option linter.unusedSimpArgs false
set_option maxRecDepth 100000
/-- Acts that came in: three numbers each. -/
def Acts (w : World) (A : Option Addr) (len b off : Nat) (xs : Nat → Int × Int × Int) : Prop :=
  (0 < len → A = some ⟨b, off, none⟩ ∧ b < w.heap.size) ∧ ∀ i, i < len → w.cell? ⟨b, off + i * 3, none⟩ = some (.int .i64 (xs i).1) ∧ w.cell? ⟨b, off + i * 3 + 1, none⟩ = some (.int .i64 (xs i).2.1) ∧ w.cell? ⟨b, off + i * 3 + 2, none⟩ = some (.int .i64 (xs i).2.2) ∧ wf (xs i).2.1 ∧ wf (xs i).2.2
theorem acts_of {w : World} {A : Option Addr} {len cap : Nat} (S : Sh.ok w (Sh.slice 3 (Sh.agg 3 [(0, 1, (Sh.int .i64)), (1, 1, (Sh.int .i64)), (2, 1, (Sh.int .i64))])) [.slice A len cap]) :
    ∃ b off xs, len ≤ cap ∧ cap ≤ maxLen ∧ Acts w A len b off xs := by
  obtain ⟨b, off, hl, hm, hA, hc⟩ := slice_at S (by omega)
  have h : ∀ i, ∃ x : Int × Int × Int, i < len → w.cell? ⟨b, off + i * 3, none⟩ = some (.int .i64 x.1) ∧ w.cell? ⟨b, off + i * 3 + 1, none⟩ = some (.int .i64 x.2.1) ∧ w.cell? ⟨b, off + i * 3 + 2, none⟩ = some (.int .i64 x.2.2) ∧ wf x.2.1 ∧ wf x.2.2 := by
    intro i
    by_cases hi : i < len
    · obtain ⟨cs, hlen, hok, hat⟩ := hc i hi
      simp only [Sh.ok, Sh.okAll] at hok
      obtain ⟨_, ⟨x, e1, w1⟩, ⟨y, e2, w2⟩, ⟨z, e3, w3⟩, _⟩ := hok
      have hl2 : ∃ c0 c1 c2, cs = [c0, c1, c2] := by
        match cs, hlen with
        | [c0, c1, c2], _ => exact ⟨c0, c1, c2, rfl⟩
      obtain ⟨c0, c1, c2, rfl⟩ := hl2
      simp at e1 e2 e3
      subst e1 e2 e3
      exact ⟨(x, y, z), fun _ => ⟨hat 0 (by omega), hat 1 (by omega), hat 2 (by omega), w2, w3⟩⟩
    · exact ⟨(0, 0, 0), fun h => absurd h hi⟩
  exact ⟨b, off, fun i => (h i).choose, hl, hm, hA, fun i hi => (h i).choose_spec hi⟩
theorem Acts.keep {w w' : World} {A : Option Addr} {len b off : Nat} {xs : Nat → Int × Int × Int} (h : Acts w A len b off xs) (hb : Below w.heap.size w w') : Acts w' A len b off xs :=
  ⟨fun hl => ⟨(h.1 hl).1, Nat.lt_of_lt_of_le (h.1 hl).2 hb.size⟩, fun i hi => by
    obtain ⟨h1, h2, h3, h4⟩ := h.2 i hi
    have hlt := (h.1 (by omega)).2
    exact ⟨by rw [hb.cell (p := ⟨b, _, none⟩) hlt]; exact h1, by rw [hb.cell (p := ⟨b, _, none⟩) hlt]; exact h2, by rw [hb.cell (p := ⟨b, _, none⟩) hlt]; exact h3, h4⟩⟩
/-- Numbers that lie in memory. -/
structure Nl (w : World) (A : Option Addr) (cap g : Nat) (ys : List Int) : Prop where
  le : ys.length ≤ cap
  cell : ∀ (j : Nat) (x : Int), ys[j]? = some x → A = some ⟨g, 0, none⟩ ∧ g < w.heap.size ∧ w.cell? ⟨g, j, none⟩ = some (.int .i64 x)
theorem Nl.below {w w' : World} {A : Option Addr} {cap g : Nat} {ys : List Int} (h : Nl w A cap g ys) (hb : Below w.heap.size w w') : Nl w' A cap g ys :=
  ⟨h.le, fun j x hj => by
    obtain ⟨h1, h2, h3⟩ := h.cell j x hj
    exact ⟨h1, Nat.lt_of_lt_of_le h2 hb.size, (World.cell?_of_block (a := ⟨g, j, none⟩) (hb.block g h2)).trans h3⟩⟩
set_option maxHeartbeats 4000000 in
theorem ints_same {w : World} {A B : Option Addr} {capA capB ga gb : Nat} {ys : List Int} (h : Nl w A capA ga ys) (k : Nl w B capB gb ys) (hn : ys.length ≤ 1000000) : Calls Try.prog 11 #[.slice A ys.length capA, .slice B ys.length capB] w fun r w' => r = .returned (.bool true) ∧ Below w.heap.size w w' := by
  have HA := Lib.hid h
  have HB := Lib.hid k
  have hla := h.le
  have hlb := k.le
  have hnI : (ys.length : Int) ≤ 1000000 := by omega
  have H0 := Lib.hid (Below.refl w.heap.size w)
  clear h k
  go_enter Try.func11, Try.ntmps11
  go_wp2
  go_loopw [5] (fun i wr => ∃ q : Nat, q ≤ ys.length ∧ i = .int .i64 (q : Int) ∧ Below w.heap.size w wr) (fun i _ => ys.length - (intOf i).toNat)
  case atStart => exact ⟨0, Nat.zero_le _, rfl, H0.out⟩
  case round =>
    obtain ⟨q, hq, rfl, hB⟩ := hrel
    have HR := Lib.hid hB
    clear hB
    by_cases hql : q < ys.length
    · obtain ⟨x, hx⟩ : ∃ x, ys[q]? = some x := ⟨ys[q], List.getElem?_eq_getElem _⟩
      obtain ⟨rfl, b1, c1⟩ := (HA.out.below HR.out).cell q x hx
      obtain ⟨rfl, b2, c2⟩ := (HB.out.below HR.out).cell q x hx
      have hqI : (q : Int) < (ys.length : Int) := by omega
      clear hx
      go_wp2_with fail
      go_quiet (fail)
      have HQ := Lib.hid (below_drewN HR.out nq)
      go_wp2
      go_roundw
      case rel => exact ⟨q + 1, by omega, by go_num, HQ.out⟩
      case measure => simp [intOf]; omega
    · obtain rfl : q = ys.length := by omega
      go_wp2
      go_ret
      exact ⟨rfl, HR.out⟩
theorem nl_row {w : World} {B : Nat} {V : Value} {l : List Int} (h : w.ownsRow B 3 1 V l.length (ivs l)) : ∃ A cap g, V = .slice A l.length cap ∧ Nl w A cap g l := by
  rcases Nat.eq_zero_or_pos l.length with h0 | h0
  · have hnil : l = [] := List.length_eq_zero_iff.1 h0
    subst hnil
    obtain ⟨_, ⟨rfl, _⟩ | ⟨b, c, cur, rfl, _⟩⟩ := h
    · exact ⟨none, 0, 0, rfl, Nat.zero_le _, fun j x hj => by cases hj⟩
    · exact ⟨_, _, 0, rfl, Nat.zero_le _, fun j x hj => by cases hj⟩
  · obtain ⟨g, cap, rfl, h1, h2, h3, _, h4⟩ := row_slice h h0
    refine ⟨_, cap, g, rfl, h1, fun j x hj => ⟨rfl, h3, (h4 j _ ?_).1⟩⟩
    unfold ivs
    rw [List.getElem?_map, hj]; rfl
theorem ints_row {w : World} {B C : Nat} {V U : Value} {l : List Int} (h : w.ownsRow B 3 1 V l.length (ivs l)) (k : w.ownsRow C 3 1 U l.length (ivs l)) (hn : l.length ≤ 1000000) : Calls Try.prog 11 #[V, U] w fun r w' => r = .returned (.bool true) ∧ Below w.heap.size w w' := by
  obtain ⟨A, ca, ga, rfl, h1⟩ := nl_row h
  obtain ⟨A', cb, gb, rfl, h2⟩ := nl_row k
  exact ints_same h1 h2 hn
/-- The hub, as a law knows it that began at w0. -/
def Hw (w0 w : World) (R b1 b2 n : Nat) (Z : List Slp) : Prop := ∃ D1 D2, Hb w R b1 b2 w0.heap.size (fun j => j < w0.heap.size) n Z D1 D2 ∧ Below w0.heap.size w0 w
section
variable {w0 w w' : World} {R b1 b2 n : Nat} {Z : List Slp}
theorem Hw.bel (h : Hw w0 w R b1 b2 n Z) : Below w0.heap.size w0 w := by
  obtain ⟨_, _, _, h⟩ := h
  exact h
theorem Hw.kept (h : Hw w0 w R b1 b2 n Z) (hb : Below w.heap.size w w') : Hw w0 w' R b1 b2 n Z := by
  obtain ⟨D1, D2, h1, h2⟩ := h
  exact ⟨D1, D2, h1.kept hb, h2.trans (hb.mono h2.size)⟩
theorem Hw.kp {D3 D4 : VD} {m : Nat} {Z' : List Slp} (h : Hw w0 w R b1 b2 n Z) (h1 : Hb w' R b1 b2 w0.heap.size (fun j => j < w0.heap.size) m Z' D3 D4) (hk : Kp (fun j => j < w0.heap.size) w w') : Hw w0 w' R b1 b2 m Z' :=
  ⟨D3, D4, h1, h.bel.trans (hk.below h.bel.size (fun j hj => hj))⟩
theorem hw_new (w : World) : Calls Try.prog 8 #[] w fun e w' => ∃ R b1 b2, e = .returned (.pointer (some ⟨R, 0, none⟩)) ∧ Hw w w' R b1 b2 0 [] := by
  refine (new_any w).mono ?_
  rintro _ w' ⟨R, b1, b2, D1, D2, rfl, h1, h2⟩
  exact ⟨R, b1, b2, rfl, D1, D2, h1, h2⟩
theorem hw_yes (h : Hw w0 w R b1 b2 n Z) (hn : n ≤ 1000) (x p : Int) (hx : wf x) (hp : wf p) (hl : look x Z = none) : Calls Try.prog 9 #[.pointer (some ⟨R, 0, none⟩), .int .i64 x, .int .i64 p] w fun e w' => e = .returned (.bool true) ∧ Hw w0 w' R b1 b2 (n + 1) (Z ++ [⟨x, p, false⟩]) := by
  have H := h
  obtain ⟨D1, D2, h1, h2⟩ := h
  refine (add_yes h1 hn x p hx hp hl).mono ?_
  rintro _ w' ⟨D3, D4, rfl, h3, h4⟩
  exact ⟨rfl, H.kp h3 h4⟩
theorem hw_no (h : Hw w0 w R b1 b2 n Z) (x p : Int) (hx : wf x) (hl : (look x Z).isSome = true) : Calls Try.prog 9 #[.pointer (some ⟨R, 0, none⟩), .int .i64 x, .int .i64 p] w fun e w' => e = .returned (.bool false) ∧ Below w.heap.size w w' := by
  obtain ⟨D1, D2, h1, h2⟩ := h
  exact add_no h1 x p hx hl
theorem hw_rem (h : Hw w0 w R b1 b2 n Z) (hn : n ≤ 1000) (x : Int) (hx : wf x) (hl : (look x Z).isSome = true) : Calls Try.prog 14 #[.pointer (some ⟨R, 0, none⟩), .int .i64 x] w fun e w' => e = .returned (.bool true) ∧ Hw w0 w' R b1 b2 n (delL Z x) := by
  have H := h
  obtain ⟨s, hs⟩ := Option.isSome_iff_exists.1 hl
  obtain ⟨D1, D2, h1, h2⟩ := h
  refine (rem_yes h1 hn x hx hs).mono ?_
  rintro _ w' ⟨D3, D4, rfl, h3, h4⟩
  exact ⟨rfl, H.kp h3 h4⟩
theorem hw_remno (h : Hw w0 w R b1 b2 n Z) (x : Int) (hx : wf x) (hl : look x Z = none) : Calls Try.prog 14 #[.pointer (some ⟨R, 0, none⟩), .int .i64 x] w fun e w' => e = .returned (.bool false) ∧ Hw w0 w' R b1 b2 n Z := by
  have H := h
  obtain ⟨D1, D2, h1, h2⟩ := h
  refine (rem_no h1 x hx hl).mono ?_
  rintro _ w' ⟨rfl, h3⟩
  exact ⟨rfl, H.kept h3⟩
theorem hw_woken (h : Hw w0 w R b1 b2 n Z) (x : Int) (hx : wf x) (v : Bool) (hv : wokenB Z x = v) : Calls Try.prog 16 #[.pointer (some ⟨R, 0, none⟩), .int .i64 x] w fun e w' => e = .returned (.bool v) ∧ w' = w := by
  obtain ⟨D1, D2, h1, h2⟩ := h
  rw [← hv]
  exact woken_any h1 x hx
theorem hw_len (h : Hw w0 w R b1 b2 n Z) (m : Nat) (hm : Z.length = m) : Calls Try.prog 20 #[.pointer (some ⟨R, 0, none⟩)] w fun e w' => e = .returned (.int .i64 m) ∧ w' = w := by
  obtain ⟨D1, D2, h1, h2⟩ := h
  rw [← hm]
  exact len_any h1
theorem hw_at (h : Hw w0 w R b1 b2 n Z) (hn : n ≤ 1000) (p : Int) (hp : wf p) (l : List Int) (hl : atL Z p = l) : Calls Try.prog 18 #[.pointer (some ⟨R, 0, none⟩), .int .i64 p] w fun e w' => ∃ V, e = .returned V ∧ w'.ownsRow w.heap.size 3 1 V l.length (ivs l) ∧ Below w.heap.size w w' := by
  obtain ⟨D1, D2, h1, h2⟩ := h
  rw [← hl]
  exact at_any h1 hn p hp
theorem hw_wake (h : Hw w0 w R b1 b2 n Z) (hn : n ≤ 1000) (p : Int) (hp : wf p) (l : List Int) (hl : freshL Z (atL Z p) = l) : Calls Try.prog 12 #[.pointer (some ⟨R, 0, none⟩), .int .i64 p] w fun e w' => ∃ V, e = .returned V ∧ Hw w0 w' R b1 b2 n (wkF Z (atL Z p)) ∧ w'.ownsRow w.heap.size 3 1 V l.length (ivs l) := by
  have H := h
  obtain ⟨D1, D2, h1, h2⟩ := h
  rw [← hl]
  refine (wake_any h1 hn p hp).mono ?_
  rintro _ w' ⟨V, D3, rfl, h3, h4, h5⟩
  exact ⟨V, rfl, H.kp h3 h5, h4⟩
theorem wf1 : wf 1 := by unfold wf; decide
theorem wf3 : wf 3 := by unfold wf; decide
theorem wf7 : wf 7 := by unfold wf; decide
theorem two_row {w : World} {g B : Nat} {x y : Int} (h : Blk w g 3 #[.int .i64 x, .int .i64 y]) (hB : B ≤ g) : w.ownsRow B 3 1 (.slice (some ⟨g, 0, none⟩) 2 2) 2 (ivs [x, y]) :=
  ⟨rfl, .inr ⟨g, 2, _, rfl, hB, h, by decide, by decide, rfl, rfl⟩⟩
end
set_option maxHeartbeats 4000000 in
theorem first_any (w : World) : Calls Try.prog 7 #[] w fun e w' => e = .returned (.bool true) ∧ Below w.heap.size w w' := by
  go_enter Try.func7, Try.ntmps7
  go_wp2_with fail
  refine (hw_new _).mono ?_
  rintro _ w1 ⟨R, b1, b2, rfl, h1⟩
  have H1 := Lib.hid h1
  clear h1
  go_wp2_with fail
  refine (hw_yes H1.out (by decide) 3 7 wf3 wf7 rfl).mono ?_
  rintro _ w2 ⟨rfl, h1⟩
  have H2 := Lib.hid h1
  clear h1
  go_wp2_with fail
  refine (hw_yes H2.out (by decide) 1 7 wf1 wf7 (by decide)).mono ?_
  rintro _ w3 ⟨rfl, h1⟩
  have H3 := Lib.hid h1
  clear h1
  go_wp2_with fail
  refine (hw_wake H3.out (by decide) 7 wf7 [3, 1] (by decide)).mono ?_
  rintro _ w4 ⟨V, rfl, h1, h2⟩
  have H4 := Lib.hid h1
  have HV := Lib.hid h2
  clear h1 h2
  go_wp2_with fail
  refine (ints_row (row_alloc HV.out _) (two_row (B := 0) (Blk.new w4 3 _) (Nat.zero_le _)) (by decide)).mono ?_
  rintro _ w5 ⟨rfl, h1⟩
  have H5 := Lib.hid ((H4.out.kept ((Below.refl _ _).alloc (Nat.le_refl _) _)).kept h1)
  clear h1
  go_wp2_with fail
  refine (hw_wake H5.out (by decide) 7 wf7 [] (by decide)).mono ?_
  rintro _ w6 ⟨V2, rfl, h1, h2⟩
  have H6 := Lib.hid h1
  obtain ⟨A2, c2, g2, rfl, _⟩ := nl_row h2
  clear h1 h2
  go_wp2_with fail
  refine (hw_woken H6.out 3 wf3 true (by decide)).mono ?_
  rintro _ w7 ⟨rfl, rfl⟩
  go_wp2_with fail
  refine (hw_len H6.out 2 (by decide)).mono ?_
  rintro _ w8 ⟨rfl, rfl⟩
  go_wp2
  go_ret
  exact ⟨rfl, H6.out.bel⟩
end Go.Proofs.Ytgfaegnpogdneaa
