/- HubPlays: its walk. -/
import Derived.Test.YtgfaegnpogdneaaHz
import Derived.Test.YtgfaegnpogdneaaHo
namespace Go.Proofs.Ytgfaegnpogdneaa
open Go.RowKit Go.Maps
open Go.ChangeShapes Go.ChangeAt
set_option linter.unusedVariables false
set_option linter.unusedSimpArgs false
set_option maxRecDepth 100000
/-- Both hubs lie apart. -/
structure Pc (w0 w : World) (R b1 b2 g n : Nat) (Z Y : List Slp) (D1 D2 : VD) (V : Value) : Prop where
  hb : Hb w R b1 b2 w0.heap.size (fun j => j < w0.heap.size) n Z D1 D2
  rh : Rh w g w0.heap.size V Y
  ng : ¬ Mine R b1 b2 D2 g
  nV : ∀ j, V.ownBlock = some j → ¬ Mine R b1 b2 D2 j
  bel : Below w0.heap.size w0 w
def Pb (w0 w : World) (R b1 b2 g n : Nat) (Z Y : List Slp) : Prop := ∃ D1 D2 V, Pc w0 w R b1 b2 g n Z Y D1 D2 V
section
variable {w0 w w' : World} {R b1 b2 g n m : Nat} {Z Z' Y Y' : List Slp} {D1 D2 D3 D4 : VD} {V V' : Value}
/-- All that is not the hub's. -/
def Rest (w : World) (R b1 b2 : Nat) (D2 : VD) (j : Nat) : Prop := j < w.heap.size ∧ ¬ Mine R b1 b2 D2 j
theorem Hb.rest {B : Nat} {No : Nat → Prop} (h : Hb w R b1 b2 B No n Z D1 D2) : Hb w R b1 b2 B (Rest w R b1 b2 D2) n Z D1 D2 :=
  h.reno (fun j hj => ⟨hj.1, .inr ⟨fun e => hj.2 (.inl e), fun e => hj.2 (.inr (.inl e)), fun e => hj.2 (.inr (.inr (.inl e))), fun q e => hj.2 (.inr (.inr (.inr ⟨q, e⟩)))⟩⟩) (fun j hj => ⟨by have := h.ge.1; have := h.lt.1; omega, fun hm => h.mine_no hm (h.noB j hj)⟩)
theorem Pc.code (h : Pc w0 w R b1 b2 g n Z Y D1 D2 V) (h1 : Hb w' R b1 b2 w0.heap.size (Rest w R b1 b2 D2) m Z' D3 D4) (hk : Kp (Rest w R b1 b2 D2) w w') : Pc w0 w' R b1 b2 g m Z' Y D3 D4 V := by
  have hno : ∀ j, j < w0.heap.size → Rest w R b1 b2 D2 j := fun j hj => ⟨h.hb.noLt j hj, fun hm => h.hb.mine_no hm hj⟩
  have hnm : ∀ j, Rest w R b1 b2 D2 j → ¬ Mine R b1 b2 D4 j := fun j hj hm => h1.mine_no hm hj
  have hg : Rest w R b1 b2 D2 g := ⟨h.rh.box.lt, h.ng⟩
  have hV : ∀ j, V.ownBlock = some j → Rest w R b1 b2 D2 j := fun j hj => ⟨(h.rh.row.lt j hj).2, h.nV j hj⟩
  refine ⟨{ h1 with
    shun := fun p j hj => ⟨(h1.shun p j hj).1, (h1.shun p j hj).2.1, (h1.shun p j hj).2.2.1, fun hN => (h1.shun p j hj).2.2.2 (hno j hN)⟩
    nR := ⟨fun hN => h1.nR.1 (hno _ hN), fun hN => h1.nR.2.1 (hno _ hN), fun hN => h1.nR.2.2 (hno _ hN)⟩
    noLt := fun j hj => h1.noLt j (hno j hj)
    noB := fun j hj => hj }, ⟨(hk.block g hg.1 hg).trans h.rh.box, row3_keep h.rh.row (fun j hj => hk.block j (hV j hj).1 (hV j hj)), h.rh.ne, h.rh.ge⟩, hnm g hg, fun j hj => hnm j (hV j hj), h.bel.trans ((hk.mono hno).below h.bel.size (fun j hj => hj))⟩
theorem Pc.ref (h : Pc w0 w R b1 b2 g n Z Y D1 D2 V) (h1 : Rh w' g w0.heap.size V' Y') (hk : Rk w w' g V V') : Pc w0 w' R b1 b2 g n Z Y' D1 D2 V' := by
  refine ⟨h.hb.off hk.size (fun j hj => hk.block j (h.hb.mine_lt hj) (fun e => h.ng (e ▸ hj)) (fun e => h.nV j e hj)), h1, h.ng, fun j hj hm => ?_, h.bel.trans ⟨hk.os, hk.tape, hk.output, hk.size, fun j hj => hk.block j (Nat.lt_of_lt_of_le hj h.bel.size) (fun e => by have := h.rh.ge; omega) (fun e => by have := (h.rh.row.lt j e).1; omega)⟩⟩
  rcases hk.own j hj with h2 | h2
  · exact h.nV j h2 hm
  · have := h.hb.mine_lt hm
    omega
theorem Pb.kept (h : Pb w0 w R b1 b2 g n Z Y) (hb : Below w.heap.size w w') : Pb w0 w' R b1 b2 g n Z Y := by
  obtain ⟨D1, D2, V, h⟩ := h
  exact ⟨D1, D2, V, h.hb.kept hb, h.rh.kept hb, h.ng, h.nV, h.bel.trans (hb.mono h.bel.size)⟩
theorem Pb.bel (h : Pb w0 w R b1 b2 g n Z Y) : Below w0.heap.size w0 w := by
  obtain ⟨D1, D2, V, h⟩ := h
  exact h.bel
theorem Pb.zn (h : Pb w0 w R b1 b2 g n Z Y) : Z.length ≤ n ∧ (Z.map Slp.who).Nodup := by
  obtain ⟨D1, D2, V, h⟩ := h
  exact ⟨h.hb.zn, h.hb.one⟩
theorem Pb.mono (h : Pb w0 w R b1 b2 g n Z Y) (hm : n ≤ m) : Pb w0 w R b1 b2 g m Z Y := by
  obtain ⟨D1, D2, V, h⟩ := h
  exact ⟨D1, D2, V, { h with hb := { h.hb with s2 := Nat.le_trans h.hb.s2 hm, zn := Nat.le_trans h.hb.zn hm } }⟩
theorem p_yes (h : Pb w0 w R b1 b2 g n Z Y) (hn : n ≤ 1000) (x p : Int) (hx : wf x) (hp : wf p) (hl : look x Z = none) : Calls Try.prog 9 #[.pointer (some ⟨R, 0, none⟩), .int .i64 x, .int .i64 p] w fun e w' => e = .returned (.bool true) ∧ Pb w0 w' R b1 b2 g (n + 1) (Z ++ [⟨x, p, false⟩]) Y := by
  obtain ⟨D1, D2, V, h⟩ := h
  refine (add_yes h.hb.rest hn x p hx hp hl).mono ?_
  rintro _ w' ⟨D3, D4, rfl, h1, h2⟩
  exact ⟨rfl, D3, D4, V, h.code h1 h2⟩
theorem p_no (h : Pb w0 w R b1 b2 g n Z Y) (x p : Int) (hx : wf x) (hl : (look x Z).isSome = true) : Calls Try.prog 9 #[.pointer (some ⟨R, 0, none⟩), .int .i64 x, .int .i64 p] w fun e w' => e = .returned (.bool false) ∧ Pb w0 w' R b1 b2 g n Z Y := by
  have H := h
  obtain ⟨D1, D2, V, h⟩ := h
  refine (add_no h.hb x p hx hl).mono ?_
  rintro _ w' ⟨rfl, h1⟩
  exact ⟨rfl, H.kept h1⟩
theorem p_rem (h : Pb w0 w R b1 b2 g n Z Y) (hn : n ≤ 1000) (x : Int) (hx : wf x) (hl : (look x Z).isSome = true) : Calls Try.prog 14 #[.pointer (some ⟨R, 0, none⟩), .int .i64 x] w fun e w' => e = .returned (.bool true) ∧ Pb w0 w' R b1 b2 g n (delL Z x) Y := by
  obtain ⟨s, hs⟩ := Option.isSome_iff_exists.1 hl
  obtain ⟨D1, D2, V, h⟩ := h
  refine (rem_yes h.hb.rest hn x hx hs).mono ?_
  rintro _ w' ⟨D3, D4, rfl, h1, h2⟩
  exact ⟨rfl, D3, D4, V, h.code h1 h2⟩
theorem p_remno (h : Pb w0 w R b1 b2 g n Z Y) (x : Int) (hx : wf x) (hl : look x Z = none) : Calls Try.prog 14 #[.pointer (some ⟨R, 0, none⟩), .int .i64 x] w fun e w' => e = .returned (.bool false) ∧ Pb w0 w' R b1 b2 g n Z Y := by
  have H := h
  obtain ⟨D1, D2, V, h⟩ := h
  refine (rem_no h.hb x hx hl).mono ?_
  rintro _ w' ⟨rfl, h1⟩
  exact ⟨rfl, H.kept h1⟩
def Ps (w0 w : World) (R b1 b2 g n : Nat) (Z Y : List Slp) (S : Nat) : Prop := ∃ D1 D2 V, Pc w0 w R b1 b2 g n Z Y D1 D2 V ∧ g < S ∧ ∀ j, V.ownBlock = some j → j < S
theorem p_wake (h : Pb w0 w R b1 b2 g n Z Y) (hn : n ≤ 1000) (p : Int) (hp : wf p) (l : List Int) (hl : freshL Z (atL Z p) = l) (Z' : List Slp) (hZ : wkF Z (atL Z p) = Z') : Calls Try.prog 12 #[.pointer (some ⟨R, 0, none⟩), .int .i64 p] w fun e w' => ∃ U, e = .returned U ∧ Ps w0 w' R b1 b2 g n Z' Y w.heap.size ∧ w'.ownsRow w.heap.size 3 1 U l.length (ivs l) := by
  rw [← hl, ← hZ]
  obtain ⟨D1, D2, V, h⟩ := h
  refine (wake_any h.hb.rest hn p hp).mono ?_
  rintro _ w' ⟨U, D3, rfl, h1, h2, h3⟩
  exact ⟨U, rfl, ⟨D3, D2, V, h.code h1 h3, h.rh.box.lt, fun j hj => (h.rh.row.lt j hj).2⟩, h2⟩
theorem p_woken (h : Pb w0 w R b1 b2 g n Z Y) (x : Int) (hx : wf x) (v : Bool) (hv : wokenB Z x = v) : Calls Try.prog 16 #[.pointer (some ⟨R, 0, none⟩), .int .i64 x] w fun e w' => e = .returned (.bool v) ∧ w' = w := by
  rw [← hv]
  obtain ⟨D1, D2, V, h⟩ := h
  exact woken_any h.hb x hx
theorem p_len (h : Pb w0 w R b1 b2 g n Z Y) (k : Nat) (hk : Z.length = k) : Calls Try.prog 20 #[.pointer (some ⟨R, 0, none⟩)] w fun e w' => e = .returned (.int .i64 k) ∧ w' = w := by
  rw [← hk]
  obtain ⟨D1, D2, V, h⟩ := h
  exact len_any h.hb
theorem p_at (h : Pb w0 w R b1 b2 g n Z Y) (hn : n ≤ 1000) (p : Int) (hp : wf p) (l : List Int) (hl : atL Z p = l) : Calls Try.prog 18 #[.pointer (some ⟨R, 0, none⟩), .int .i64 p] w fun e w' => ∃ U, e = .returned U ∧ w'.ownsRow w.heap.size 3 1 U l.length (ivs l) ∧ Below w.heap.size w w' := by
  rw [← hl]
  obtain ⟨D1, D2, V, h⟩ := h
  exact at_any h.hb hn p hp
theorem q_yes (h : Pb w0 w R b1 b2 g n Z Y) (hn : Y.length ≤ 1000) (x p : Int) (hl : look x Y = none) : Calls Try.prog 10 #[.pointer (some ⟨g, 0, none⟩), .int .i64 x, .int .i64 p] w fun e w' => e = .returned (.bool true) ∧ Pb w0 w' R b1 b2 g n Z (Y ++ [⟨x, p, false⟩]) := by
  obtain ⟨D1, D2, V, h⟩ := h
  refine (radd_yes h.rh h.bel.size hn x p hl).mono ?_
  rintro _ w' ⟨V', rfl, h1, h2⟩
  exact ⟨rfl, D1, D2, V', h.ref h1 h2⟩
theorem q_no (h : Pb w0 w R b1 b2 g n Z Y) (hn : Y.length ≤ 1000) (x p : Int) (hl : (look x Y).isSome = true) : Calls Try.prog 10 #[.pointer (some ⟨g, 0, none⟩), .int .i64 x, .int .i64 p] w fun e w' => e = .returned (.bool false) ∧ w' = w := by
  obtain ⟨D1, D2, V, h⟩ := h
  exact radd_no h.rh hn x p hl
theorem q_rem (h : Pb w0 w R b1 b2 g n Z Y) (hn : Y.length ≤ 1000) (hone : (Y.map Slp.who).Nodup) (x : Int) (hl : (look x Y).isSome = true) : Calls Try.prog 15 #[.pointer (some ⟨g, 0, none⟩), .int .i64 x] w fun e w' => e = .returned (.bool true) ∧ Pb w0 w' R b1 b2 g n Z (delL Y x) := by
  obtain ⟨D1, D2, V, h⟩ := h
  refine (rrem_yes h.rh h.bel.size hn hone x hl).mono ?_
  rintro _ w' ⟨V', rfl, h1, h2⟩
  exact ⟨rfl, D1, D2, V', h.ref h1 h2⟩
theorem q_remno (h : Pb w0 w R b1 b2 g n Z Y) (hn : Y.length ≤ 1000) (x : Int) (hl : look x Y = none) : Calls Try.prog 15 #[.pointer (some ⟨g, 0, none⟩), .int .i64 x] w fun e w' => e = .returned (.bool false) ∧ w' = w := by
  obtain ⟨D1, D2, V, h⟩ := h
  exact rrem_no h.rh hn x hl
theorem q_wake {S : Nat} (h : Ps w0 w R b1 b2 g n Z Y S) (hn : Y.length ≤ 1000) (p : Int) {U0 : Value} {l0 : List Int} (hU0 : w.ownsRow S 3 1 U0 l0.length (ivs l0)) (l : List Int) (hl : rfr p Y = l) (Y' : List Slp) (hY : Y.map (rwk p) = Y') : Calls Try.prog 13 #[.pointer (some ⟨g, 0, none⟩), .int .i64 p] w fun e w' => ∃ U, e = .returned U ∧ Pb w0 w' R b1 b2 g n Z Y' ∧ w'.ownsRow w.heap.size 3 1 U l.length (ivs l) ∧ w'.ownsRow S 3 1 U0 l0.length (ivs l0) := by
  rw [← hl, ← hY]
  obtain ⟨D1, D2, V, h, hg, hV⟩ := h
  refine (rwake_any h.rh hn p).mono ?_
  rintro _ w' ⟨U, rfl, h1, h2, h3⟩
  refine ⟨U, rfl, ⟨D1, D2, V, h.ref h1 h3⟩, h2, row_keep hU0 (fun j hj => h3.block j (hU0.lt j hj).2 (fun e => by have := (hU0.lt j hj).1; omega) (fun e => by have := (hU0.lt j hj).1; have := hV j e; omega))⟩
theorem q_woken (h : Pb w0 w R b1 b2 g n Z Y) (hn : Y.length ≤ 1000) (x : Int) (v : Bool) (hv : wokenB Y x = v) : Calls Try.prog 17 #[.pointer (some ⟨g, 0, none⟩), .int .i64 x] w fun e w' => e = .returned (.bool v) ∧ w' = w := by
  rw [← hv]
  obtain ⟨D1, D2, V, h⟩ := h
  exact rwoken_any h.rh hn x
theorem q_len (h : Pb w0 w R b1 b2 g n Z Y) (k : Nat) (hk : Y.length = k) : Calls Try.prog 21 #[.pointer (some ⟨g, 0, none⟩)] w fun e w' => e = .returned (.int .i64 k) ∧ w' = w := by
  rw [← hk]
  obtain ⟨D1, D2, V, h⟩ := h
  exact rlen_any h.rh
theorem q_at (h : Pb w0 w R b1 b2 g n Z Y) (hn : Y.length ≤ 1000) (p : Int) (l : List Int) (hl : atL Y p = l) : Calls Try.prog 19 #[.pointer (some ⟨g, 0, none⟩), .int .i64 p] w fun e w' => ∃ U, e = .returned U ∧ w'.ownsRow w.heap.size 3 1 U l.length (ivs l) ∧ Below w.heap.size w w' := by
  rw [← hl]
  obtain ⟨D1, D2, V, h⟩ := h
  exact rat_any h.rh hn p
end
theorem pb_new {w w' : World} {R b1 b2 : Nat} {D1 D2 : VD} (h : Hb w' R b1 b2 w.heap.size (fun j => j < w.heap.size) 0 [] D1 D2) (hb : Below w.heap.size w w') : Pb w (w'.alloc (.cells #[.slice none 0 0] 29)) R b1 b2 w'.heap.size 0 [] [] := by
  refine ⟨D1, D2, .slice none 0 0, h.kept ((Below.refl _ _).alloc (Nat.le_refl _) _), ⟨Blk.new w' 29 _, World.ownsRow_nil _ _ _ _, (by intro e; cases e), hb.size⟩, fun hm => by have := h.mine_lt hm; omega, fun j hj => (by cases hj), hb.alloc hb.size _⟩
set_option maxHeartbeats 16000000 in
theorem hplays_in (w : World) (A : Option Addr) (len cap blk off : Nat) (xs : Nat → Int × Int × Int) (hl : len ≤ cap) (hm : cap ≤ maxLen) (hlen : len ≤ 100) (hA : Acts w A len blk off xs) (other : Int) (hwo : wf other) :
    Calls Try.prog 3 #[.slice A len cap, .int .i64 other] w fun e w' => e = .returned (.bool true) ∧ Below w.heap.size w w' := by
  have HA := Lib.hid hA
  have HWO := Lib.hid hwo
  have hl2 : ¬ (len : Int) > 100 := by omega
  clear hA hwo hm
  go_enter Try.func3, Try.ntmps3
  go_wp2_with fail
  refine (first_any _).mono ?_
  rintro _ w1 ⟨rfl, hb⟩
  have HB1 := Lib.hid hb
  have HA1 := Lib.hid (HA.out.keep hb)
  clear hb
  go_wp2_with fail
  refine (new_any _).mono ?_
  rintro _ w2 ⟨R, b1, b2, D1, D2, rfl, h1, h2⟩
  have HN := Lib.hid h1
  have HBN := Lib.hid h2
  clear h1 h2
  go_wp2_with fail
  have HP0 := Lib.hid (pb_new HN.out HBN.out)
  obtain ⟨g, hg⟩ : ∃ g, w2.heap.size = g := ⟨_, rfl⟩
  rw [hg] at HP0
  simp only [hg]
  clear hg
  go_loopw [7] (fun i wr => ∃ (k : Nat) (Z : List Slp), k ≤ len ∧ i = .int .i64 (k : Int) ∧ Pb w1 wr R b1 b2 g k Z Z) (fun i _ => len - (intOf i).toNat)
  case atStart => exact ⟨0, [], Nat.zero_le _, rfl, HP0.out⟩
  case round =>
    obtain ⟨k, Z, hk, rfl, hc⟩ := hrel
    have HC := Lib.hid hc
    have hzk := hc.zn
    by_cases hlt : k < len
    · obtain ⟨c0, c1, c2, f1, f2⟩ := (HA1.out.keep hc.bel).2 k hlt
      obtain rfl := (HA1.out.1 (by omega)).1
      obtain ⟨op, hop⟩ : ∃ op, op = (xs k).1 := ⟨_, rfl⟩
      obtain ⟨x, hx⟩ : ∃ x, x = (xs k).2.1 := ⟨_, rfl⟩
      obtain ⟨y, hy⟩ : ∃ y, y = (xs k).2.2 := ⟨_, rfl⟩
      rw [← hop] at c0
      rw [← hx] at c1 f1
      rw [← hy] at c2 f2
      have F1 := Lib.hid f1
      have F2 := Lib.hid f2
      obtain ⟨hzk, hzone⟩ := hzk
      have HON := Lib.hid hzone
      have hz1000 : Z.length ≤ 1000 := by omega
      have c1d : wr.drew.cell? ⟨blk, off + k * 3 + 1, none⟩ = some (.int .i64 x) := c1
      have c2d : wr.drew.cell? ⟨blk, off + k * 3 + 2, none⟩ = some (.int .i64 y) := c2
      have c0d : wr.drew.cell? ⟨blk, off + k * 3, none⟩ = some (.int .i64 op) := c0
      have HCD := Lib.hid (show Pb w1 wr.drew R b1 b2 g k Z Z from HC.out.kept (Below.refl _ _).drew)
      clear hop hx hy hc f1 f2 hzone
      by_cases o0 : op = 0
      · subst o0
        go_wp2_with fail
        go_region_held3 (fun W => W.cell? ⟨blk, off + k * 3 + 1, none⟩ = some (.int .i64 x) ∧ W.cell? ⟨blk, off + k * 3 + 2, none⟩ = some (.int .i64 y)) (exact ⟨c1d, c2d⟩) (fail)
        clear c0 c1 c2 c1d c2d
        by_cases hlk : (look x Z).isSome = true
        · have HLK := Lib.hid hlk
          go_wp2_with fail
          refine (p_no HCD.out x y F1.out HLK.out).mono ?_
          rintro _ t0 ⟨rfl, h1⟩
          have H0 := Lib.hid h1
          clear h1
          go_wp2_with fail
          refine (q_no H0.out hz1000 x y HLK.out).mono ?_
          rintro _ x1 ⟨rfl, hw⟩
          replace hw := hw.symm
          subst hw
          generalize Z = Z2 at H0
          have H := Lib.hid (H0.out)
          have hm : k ≤ 1000 := by omega
          have hmk : k ≤ k + 1 := by omega
          have hY : Z2.length ≤ 1000 := by have := H.out.zn.1; omega
          obtain ⟨v1, hv1⟩ : ∃ v, wokenB Z2 x = v := ⟨_, rfl⟩
          obtain ⟨v2, hv2⟩ : ∃ v, wokenB Z2 other = v := ⟨_, rfl⟩
          have HV1 := Lib.hid hv1
          have HV2 := Lib.hid hv2
          clear hv1 hv2
          go_wp2_with fail
          refine (p_woken H.out x F1.out v1 HV1.out).mono ?_
          rintro _ x1 ⟨rfl, hw⟩
          replace hw := hw.symm
          subst hw
          go_wp2_with fail
          refine (q_woken H.out hY x v1 HV1.out).mono ?_
          rintro _ x1 ⟨rfl, hw⟩
          replace hw := hw.symm
          subst hw
          go_wp2_with fail
          refine (p_woken H.out other HWO.out v2 HV2.out).mono ?_
          rintro _ x1 ⟨rfl, hw⟩
          replace hw := hw.symm
          subst hw
          go_wp2_with fail
          refine (q_woken H.out hY other v2 HV2.out).mono ?_
          rintro _ x1 ⟨rfl, hw⟩
          replace hw := hw.symm
          subst hw
          go_wp2_with fail
          refine (p_at H.out hm y F2.out _ rfl).mono ?_
          rintro _ t1 ⟨U1, rfl, h1, h2⟩
          have HU1 := Lib.hid h1
          have H1 := Lib.hid (H.out.kept h2)
          clear h1 h2
          go_wp2_with fail
          refine (q_at H1.out hY y _ rfl).mono ?_
          rintro _ t2 ⟨U2, rfl, h1, h2⟩
          have HU2 := Lib.hid h1
          have HU3 := Lib.hid (row_keep HU1.out (fun j hj => h2.block j (HU1.out.lt j hj).2))
          have H2 := Lib.hid (H1.out.kept h2)
          clear h1 h2
          go_wp2_with fail
          refine (ints_row HU3.out HU2.out (by have := atL_len Z2 y; omega)).mono ?_
          rintro _ t3 ⟨rfl, h2⟩
          have H3 := Lib.hid (H2.out.kept h2)
          clear h2
          go_wp2_with fail
          refine (p_len H3.out _ rfl).mono ?_
          rintro _ x1 ⟨rfl, hw⟩
          replace hw := hw.symm
          subst hw
          go_wp2_with fail
          refine (q_len H3.out _ rfl).mono ?_
          rintro _ x1 ⟨rfl, hw⟩
          replace hw := hw.symm
          subst hw
          go_wp2
          go_roundw
          case rel => exact ⟨k + 1, Z2, by omega, by go_num, H3.out.mono hmk⟩
          case measure => simp [intOf]; omega
        · have hln : look x Z = none := by
            cases h : look x Z with
            | none => rfl
            | some s => rw [h] at hlk; exact absurd rfl hlk
          have HLK := Lib.hid hln
          go_wp2_with fail
          refine (p_yes HCD.out (by omega) x y F1.out F2.out HLK.out).mono ?_
          rintro _ t0 ⟨rfl, h1⟩
          have H0 := Lib.hid h1
          clear h1
          go_wp2_with fail
          refine (q_yes H0.out hz1000 x y HLK.out).mono ?_
          rintro _ t9 ⟨rfl, h1⟩
          have H9 := Lib.hid h1
          clear h1
          generalize Z ++ [⟨x, y, false⟩] = Z2 at H9
          have H := Lib.hid (H9.out)
          have hm : (k + 1) ≤ 1000 := by omega
          have hmk : (k + 1) ≤ k + 1 := by omega
          have hY : Z2.length ≤ 1000 := by have := H.out.zn.1; omega
          obtain ⟨v1, hv1⟩ : ∃ v, wokenB Z2 x = v := ⟨_, rfl⟩
          obtain ⟨v2, hv2⟩ : ∃ v, wokenB Z2 other = v := ⟨_, rfl⟩
          have HV1 := Lib.hid hv1
          have HV2 := Lib.hid hv2
          clear hv1 hv2
          go_wp2_with fail
          refine (p_woken H.out x F1.out v1 HV1.out).mono ?_
          rintro _ x1 ⟨rfl, hw⟩
          replace hw := hw.symm
          subst hw
          go_wp2_with fail
          refine (q_woken H.out hY x v1 HV1.out).mono ?_
          rintro _ x1 ⟨rfl, hw⟩
          replace hw := hw.symm
          subst hw
          go_wp2_with fail
          refine (p_woken H.out other HWO.out v2 HV2.out).mono ?_
          rintro _ x1 ⟨rfl, hw⟩
          replace hw := hw.symm
          subst hw
          go_wp2_with fail
          refine (q_woken H.out hY other v2 HV2.out).mono ?_
          rintro _ x1 ⟨rfl, hw⟩
          replace hw := hw.symm
          subst hw
          go_wp2_with fail
          refine (p_at H.out hm y F2.out _ rfl).mono ?_
          rintro _ t1 ⟨U1, rfl, h1, h2⟩
          have HU1 := Lib.hid h1
          have H1 := Lib.hid (H.out.kept h2)
          clear h1 h2
          go_wp2_with fail
          refine (q_at H1.out hY y _ rfl).mono ?_
          rintro _ t2 ⟨U2, rfl, h1, h2⟩
          have HU2 := Lib.hid h1
          have HU3 := Lib.hid (row_keep HU1.out (fun j hj => h2.block j (HU1.out.lt j hj).2))
          have H2 := Lib.hid (H1.out.kept h2)
          clear h1 h2
          go_wp2_with fail
          refine (ints_row HU3.out HU2.out (by have := atL_len Z2 y; omega)).mono ?_
          rintro _ t3 ⟨rfl, h2⟩
          have H3 := Lib.hid (H2.out.kept h2)
          clear h2
          go_wp2_with fail
          refine (p_len H3.out _ rfl).mono ?_
          rintro _ x1 ⟨rfl, hw⟩
          replace hw := hw.symm
          subst hw
          go_wp2_with fail
          refine (q_len H3.out _ rfl).mono ?_
          rintro _ x1 ⟨rfl, hw⟩
          replace hw := hw.symm
          subst hw
          go_wp2
          go_roundw
          case rel => exact ⟨k + 1, Z2, by omega, by go_num, H3.out.mono hmk⟩
          case measure => simp [intOf]; omega
      · have o0' : (op == 0) = false := by simpa using o0
        by_cases o1 : op = 1
        · subst o1
          go_wp2_with fail
          go_region_held3 (fun W => W.cell? ⟨blk, off + k * 3 + 1, none⟩ = some (.int .i64 x) ∧ W.cell? ⟨blk, off + k * 3 + 2, none⟩ = some (.int .i64 y)) (exact ⟨c1d, c2d⟩) (fail)
          clear c0 c1 c2 c1d c2d
          have HFE := Lib.hid (freshL_eq y Z HON.out Z (fun s h => h))
          have HWE := Lib.hid (wkF_rwk y Z HON.out)
          go_wp2_with fail
          refine (p_wake HCD.out (by omega) y F2.out _ HFE.out _ HWE.out).mono ?_
          rintro _ t0 ⟨U0, rfl, h1, h2⟩
          have H0 := Lib.hid h1
          have HU0 := Lib.hid h2
          clear h1 h2
          go_wp2_with fail
          refine (q_wake H0.out hz1000 y HU0.out _ rfl _ rfl).mono ?_
          rintro _ t9 ⟨U9, rfl, h1, h2, h3⟩
          have H8 := Lib.hid h1
          have HU9 := Lib.hid h2
          have HU8 := Lib.hid h3
          clear h1 h2 h3
          have hrl : (rfr y Z).length ≤ 1000000 := by
            unfold rfr
            rw [List.length_map]
            have := List.length_filter_le (fun s : Slp => decide (s.place = y) && !s.woken) Z
            omega
          go_wp2_with fail
          refine (ints_row HU8.out HU9.out hrl).mono ?_
          rintro _ t7 ⟨rfl, h2⟩
          have H7 := Lib.hid (H8.out.kept h2)
          clear h2
          generalize Z.map (rwk y) = Z2 at H7
          have H := Lib.hid (H7.out)
          have hm : k ≤ 1000 := by omega
          have hmk : k ≤ k + 1 := by omega
          have hY : Z2.length ≤ 1000 := by have := H.out.zn.1; omega
          obtain ⟨v1, hv1⟩ : ∃ v, wokenB Z2 x = v := ⟨_, rfl⟩
          obtain ⟨v2, hv2⟩ : ∃ v, wokenB Z2 other = v := ⟨_, rfl⟩
          have HV1 := Lib.hid hv1
          have HV2 := Lib.hid hv2
          clear hv1 hv2
          go_wp2_with fail
          refine (p_woken H.out x F1.out v1 HV1.out).mono ?_
          rintro _ x1 ⟨rfl, hw⟩
          replace hw := hw.symm
          subst hw
          go_wp2_with fail
          refine (q_woken H.out hY x v1 HV1.out).mono ?_
          rintro _ x1 ⟨rfl, hw⟩
          replace hw := hw.symm
          subst hw
          go_wp2_with fail
          refine (p_woken H.out other HWO.out v2 HV2.out).mono ?_
          rintro _ x1 ⟨rfl, hw⟩
          replace hw := hw.symm
          subst hw
          go_wp2_with fail
          refine (q_woken H.out hY other v2 HV2.out).mono ?_
          rintro _ x1 ⟨rfl, hw⟩
          replace hw := hw.symm
          subst hw
          go_wp2_with fail
          refine (p_at H.out hm y F2.out _ rfl).mono ?_
          rintro _ t1 ⟨U1, rfl, h1, h2⟩
          have HU1 := Lib.hid h1
          have H1 := Lib.hid (H.out.kept h2)
          clear h1 h2
          go_wp2_with fail
          refine (q_at H1.out hY y _ rfl).mono ?_
          rintro _ t2 ⟨U2, rfl, h1, h2⟩
          have HU2 := Lib.hid h1
          have HU3 := Lib.hid (row_keep HU1.out (fun j hj => h2.block j (HU1.out.lt j hj).2))
          have H2 := Lib.hid (H1.out.kept h2)
          clear h1 h2
          go_wp2_with fail
          refine (ints_row HU3.out HU2.out (by have := atL_len Z2 y; omega)).mono ?_
          rintro _ t3 ⟨rfl, h2⟩
          have H3 := Lib.hid (H2.out.kept h2)
          clear h2
          go_wp2_with fail
          refine (p_len H3.out _ rfl).mono ?_
          rintro _ x1 ⟨rfl, hw⟩
          replace hw := hw.symm
          subst hw
          go_wp2_with fail
          refine (q_len H3.out _ rfl).mono ?_
          rintro _ x1 ⟨rfl, hw⟩
          replace hw := hw.symm
          subst hw
          go_wp2
          go_roundw
          case rel => exact ⟨k + 1, Z2, by omega, by go_num, H3.out.mono hmk⟩
          case measure => simp [intOf]; omega
        · have o1' : (op == 1) = false := by simpa using o1
          go_wp2_with fail
          go_region_held3 (fun W => W.cell? ⟨blk, off + k * 3 + 1, none⟩ = some (.int .i64 x) ∧ W.cell? ⟨blk, off + k * 3 + 2, none⟩ = some (.int .i64 y)) (exact ⟨c1d, c2d⟩) (fail)
          clear c0 c1 c2 c1d c2d
          by_cases hlk : (look x Z).isSome = true
          · have HLK := Lib.hid hlk
            go_wp2_with fail
            refine (p_rem HCD.out (by omega) x F1.out HLK.out).mono ?_
            rintro _ t0 ⟨rfl, h1⟩
            have H0 := Lib.hid h1
            clear h1
            go_wp2_with fail
            refine (q_rem H0.out hz1000 HON.out x HLK.out).mono ?_
            rintro _ t9 ⟨rfl, h1⟩
            have H9 := Lib.hid h1
            clear h1
            generalize delL Z x = Z2 at H9
            have H := Lib.hid (H9.out)
            have hm : k ≤ 1000 := by omega
            have hmk : k ≤ k + 1 := by omega
            have hY : Z2.length ≤ 1000 := by have := H.out.zn.1; omega
            obtain ⟨v1, hv1⟩ : ∃ v, wokenB Z2 x = v := ⟨_, rfl⟩
            obtain ⟨v2, hv2⟩ : ∃ v, wokenB Z2 other = v := ⟨_, rfl⟩
            have HV1 := Lib.hid hv1
            have HV2 := Lib.hid hv2
            clear hv1 hv2
            go_wp2_with fail
            refine (p_woken H.out x F1.out v1 HV1.out).mono ?_
            rintro _ x1 ⟨rfl, hw⟩
            replace hw := hw.symm
            subst hw
            go_wp2_with fail
            refine (q_woken H.out hY x v1 HV1.out).mono ?_
            rintro _ x1 ⟨rfl, hw⟩
            replace hw := hw.symm
            subst hw
            go_wp2_with fail
            refine (p_woken H.out other HWO.out v2 HV2.out).mono ?_
            rintro _ x1 ⟨rfl, hw⟩
            replace hw := hw.symm
            subst hw
            go_wp2_with fail
            refine (q_woken H.out hY other v2 HV2.out).mono ?_
            rintro _ x1 ⟨rfl, hw⟩
            replace hw := hw.symm
            subst hw
            go_wp2_with fail
            refine (p_at H.out hm y F2.out _ rfl).mono ?_
            rintro _ t1 ⟨U1, rfl, h1, h2⟩
            have HU1 := Lib.hid h1
            have H1 := Lib.hid (H.out.kept h2)
            clear h1 h2
            go_wp2_with fail
            refine (q_at H1.out hY y _ rfl).mono ?_
            rintro _ t2 ⟨U2, rfl, h1, h2⟩
            have HU2 := Lib.hid h1
            have HU3 := Lib.hid (row_keep HU1.out (fun j hj => h2.block j (HU1.out.lt j hj).2))
            have H2 := Lib.hid (H1.out.kept h2)
            clear h1 h2
            go_wp2_with fail
            refine (ints_row HU3.out HU2.out (by have := atL_len Z2 y; omega)).mono ?_
            rintro _ t3 ⟨rfl, h2⟩
            have H3 := Lib.hid (H2.out.kept h2)
            clear h2
            go_wp2_with fail
            refine (p_len H3.out _ rfl).mono ?_
            rintro _ x1 ⟨rfl, hw⟩
            replace hw := hw.symm
            subst hw
            go_wp2_with fail
            refine (q_len H3.out _ rfl).mono ?_
            rintro _ x1 ⟨rfl, hw⟩
            replace hw := hw.symm
            subst hw
            go_wp2
            go_roundw
            case rel => exact ⟨k + 1, Z2, by omega, by go_num, H3.out.mono hmk⟩
            case measure => simp [intOf]; omega
          · have hln : look x Z = none := by
              cases h : look x Z with
              | none => rfl
              | some s => rw [h] at hlk; exact absurd rfl hlk
            have HLK := Lib.hid hln
            go_wp2_with fail
            refine (p_remno HCD.out x F1.out HLK.out).mono ?_
            rintro _ t0 ⟨rfl, h1⟩
            have H0 := Lib.hid h1
            clear h1
            go_wp2_with fail
            refine (q_remno H0.out hz1000 x HLK.out).mono ?_
            rintro _ x1 ⟨rfl, hw⟩
            replace hw := hw.symm
            subst hw
            generalize Z = Z2 at H0
            have H := Lib.hid (H0.out)
            have hm : k ≤ 1000 := by omega
            have hmk : k ≤ k + 1 := by omega
            have hY : Z2.length ≤ 1000 := by have := H.out.zn.1; omega
            obtain ⟨v1, hv1⟩ : ∃ v, wokenB Z2 x = v := ⟨_, rfl⟩
            obtain ⟨v2, hv2⟩ : ∃ v, wokenB Z2 other = v := ⟨_, rfl⟩
            have HV1 := Lib.hid hv1
            have HV2 := Lib.hid hv2
            clear hv1 hv2
            go_wp2_with fail
            refine (p_woken H.out x F1.out v1 HV1.out).mono ?_
            rintro _ x1 ⟨rfl, hw⟩
            replace hw := hw.symm
            subst hw
            go_wp2_with fail
            refine (q_woken H.out hY x v1 HV1.out).mono ?_
            rintro _ x1 ⟨rfl, hw⟩
            replace hw := hw.symm
            subst hw
            go_wp2_with fail
            refine (p_woken H.out other HWO.out v2 HV2.out).mono ?_
            rintro _ x1 ⟨rfl, hw⟩
            replace hw := hw.symm
            subst hw
            go_wp2_with fail
            refine (q_woken H.out hY other v2 HV2.out).mono ?_
            rintro _ x1 ⟨rfl, hw⟩
            replace hw := hw.symm
            subst hw
            go_wp2_with fail
            refine (p_at H.out hm y F2.out _ rfl).mono ?_
            rintro _ t1 ⟨U1, rfl, h1, h2⟩
            have HU1 := Lib.hid h1
            have H1 := Lib.hid (H.out.kept h2)
            clear h1 h2
            go_wp2_with fail
            refine (q_at H1.out hY y _ rfl).mono ?_
            rintro _ t2 ⟨U2, rfl, h1, h2⟩
            have HU2 := Lib.hid h1
            have HU3 := Lib.hid (row_keep HU1.out (fun j hj => h2.block j (HU1.out.lt j hj).2))
            have H2 := Lib.hid (H1.out.kept h2)
            clear h1 h2
            go_wp2_with fail
            refine (ints_row HU3.out HU2.out (by have := atL_len Z2 y; omega)).mono ?_
            rintro _ t3 ⟨rfl, h2⟩
            have H3 := Lib.hid (H2.out.kept h2)
            clear h2
            go_wp2_with fail
            refine (p_len H3.out _ rfl).mono ?_
            rintro _ x1 ⟨rfl, hw⟩
            replace hw := hw.symm
            subst hw
            go_wp2_with fail
            refine (q_len H3.out _ rfl).mono ?_
            rintro _ x1 ⟨rfl, hw⟩
            replace hw := hw.symm
            subst hw
            go_wp2
            go_roundw
            case rel => exact ⟨k + 1, Z2, by omega, by go_num, H3.out.mono hmk⟩
            case measure => simp [intOf]; omega
    · obtain rfl : k = len := by omega
      clear hc hlt
      go_wp2
      go_ret
      exact ⟨rfl, HB1.out.trans (HC.out.bel.mono HB1.out.size)⟩
theorem hplays_big (w : World) (A : Option Addr) (len cap : Nat) (p : Int) (h : 100 < len) : Calls Try.prog 3 #[.slice A len cap, .int .i64 p] w fun e w' => e = .returned (.bool true) ∧ Below w.heap.size w w' := by
  have hl2 : (len : Int) > 100 := by omega
  go_enter Try.func3, Try.ntmps3
  go_wp2_with fail
  refine (first_any _).mono ?_
  rintro _ w1 ⟨rfl, hb⟩
  have HB1 := Lib.hid hb
  clear hb
  go_wp2_with fail
  refine (first_any _).mono ?_
  rintro _ w2 ⟨rfl, hb⟩
  have HB2 := Lib.hid hb
  clear hb
  go_wp2
  go_ret
  exact ⟨rfl, HB1.out.trans (HB2.out.mono HB1.out.size)⟩
theorem hubPlays_walk (w : World) (A0 : Option Addr) (len0 cap0 : Nat) (S0 : Sh.ok w (Sh.slice 3 (Sh.agg 3 [(0, 1, (Sh.int .i64)), (1, 1, (Sh.int .i64)), (2, 1, (Sh.int .i64))])) [.slice A0 len0 cap0]) (a1 : Int) (w1 : (Lit.int .i64 a1).wf = true) :
    Calls Try.prog 3 #[.slice A0 len0 cap0, .int .i64 a1] w fun e w' => e = .returned (.bool true) ∧ Below w.heap.size w w' := by
  obtain ⟨b, off, xs, hl, hm, hA⟩ := acts_of S0
  by_cases h : 100 < len0
  · exact hplays_big w A0 len0 cap0 a1 h
  · exact hplays_in w A0 len0 cap0 b off xs hl hm (by omega) hA a1 w1
end Go.Proofs.Ytgfaegnpogdneaa
