/- A hub that acts have made. -/
import Derived.Test.YtgfaegnpogdneaaHu
namespace Go.Proofs.Ytgfaegnpogdneaa
open Go.RowKit Go.Maps
open Go.ChangeShapes Go.ChangeAt
set_option linter.unusedVariables false
set_option linter.unusedSimpArgs false
set_option maxRecDepth 100000
section
variable {w0 w w' : World} {R b1 b2 n : Nat} {Z : List Slp}
theorem Hw.mono (h : Hw w0 w R b1 b2 n Z) {m : Nat} (hm : n ≤ m) : Hw w0 w R b1 b2 m Z := by
  obtain ⟨D1, D2, h1, h2⟩ := h
  exact ⟨D1, D2, { h1 with s2 := Nat.le_trans h1.s2 hm, zn := Nat.le_trans h1.zn hm }, h2⟩
/-- All wait at places that the first k acts name. -/
def From (xs : Nat → Int × Int × Int) (k : Nat) (Z : List Slp) : Prop := ∀ s ∈ Z, ∃ i, i < k ∧ s.place = (xs i).2.2
theorem From.up {xs : Nat → Int × Int × Int} {k : Nat} {Z : List Slp} (h : From xs k Z) : From xs (k + 1) Z := fun s hs => by
  obtain ⟨i, hi, e⟩ := h s hs
  exact ⟨i, by omega, e⟩
theorem From.del {xs : Nat → Int × Int × Int} {k : Nat} {Z : List Slp} (h : From xs k Z) (x : Int) : From xs k (delL Z x) := fun s hs => h s (delL_mem hs).1
theorem From.add {xs : Nat → Int × Int × Int} {k : Nat} {Z : List Slp} (h : From xs k Z) (x p : Int) (hp : p = (xs k).2.2) : From xs (k + 1) (Z ++ [⟨x, p, false⟩]) := fun s hs => by
  rcases List.mem_append.1 hs with hs | hs
  · exact h.up s hs
  · rw [List.mem_singleton.1 hs]; exact ⟨k, by omega, hp⟩
theorem From.wk1 {xs : Nat → Int × Int × Int} {k : Nat} {Z : List Slp} (h : From xs k Z) (x : Int) : From xs k (wk1 Z x) := fun s hs => by
  obtain ⟨t, ht, rfl⟩ := List.mem_map.1 hs
  obtain ⟨i, hi, e⟩ := h t ht
  exact ⟨i, hi, by split <;> exact e⟩
theorem From.wkF {xs : Nat → Int × Int × Int} {k : Nat} (l : List Int) : ∀ {Z : List Slp}, From xs k Z → From xs k (wkF Z l) := by
  induction l with
  | nil => exact fun h => h
  | cons x l ih => exact fun h => ih (h.wk1 x)
theorem hw_add (h : Hw w0 w R b1 b2 n Z) (hn : n ≤ 1000) (x p : Int) (hx : wf x) (hp : wf p) : Calls Try.prog 9 #[.pointer (some ⟨R, 0, none⟩), .int .i64 x, .int .i64 p] w fun e w' => e = .returned (.bool (look x Z).isNone) ∧ ∃ Z', Hw w0 w' R b1 b2 (n + 1) Z' ∧ (Z' = Z ∨ Z' = Z ++ [⟨x, p, false⟩]) := by
  cases hl : look x Z with
  | none =>
    refine (hw_yes h hn x p hx hp hl).mono ?_
    rintro _ w' ⟨rfl, h1⟩
    exact ⟨rfl, _, h1, .inr rfl⟩
  | some s =>
    refine (hw_no h x p hx (by rw [hl]; rfl)).mono ?_
    rintro _ w' ⟨rfl, h1⟩
    exact ⟨rfl, _, (h.kept h1).mono (by omega), .inl rfl⟩
theorem hw_remove (h : Hw w0 w R b1 b2 n Z) (hn : n ≤ 1000) (x : Int) (hx : wf x) : Calls Try.prog 14 #[.pointer (some ⟨R, 0, none⟩), .int .i64 x] w fun e w' => e = .returned (.bool (look x Z).isSome) ∧ Hw w0 w' R b1 b2 n (delL Z x) := by
  cases hl : look x Z with
  | none =>
    refine (hw_remno h x hx hl).mono ?_
    rintro _ w' ⟨rfl, h1⟩
    have : delL Z x = Z := List.filter_eq_self.2 (fun s hs => by have := look_none hl s hs; simpa using this)
    rw [this]
    exact ⟨rfl, h1⟩
  | some s => exact hw_rem h hn x hx (by rw [hl]; rfl)
end
set_option maxHeartbeats 8000000 in
theorem made_any (w : World) (A : Option Addr) (len cap blk off : Nat) (xs : Nat → Int × Int × Int) (hl : len ≤ cap) (hm : cap ≤ maxLen) (hlen : len ≤ 100) (hA : Acts w A len blk off xs) :
    Calls Try.prog 22 #[.slice A len cap] w fun e w' => ∃ R b1 b2 Z, e = .returned (.pointer (some ⟨R, 0, none⟩)) ∧ Hw w w' R b1 b2 len Z ∧ From xs len Z := by
  have HA := Lib.hid hA
  clear hA
  unfold maxLen at hm
  go_enter Try.func22, Try.ntmps22
  go_wp2_with fail
  refine (hw_new _).mono ?_
  rintro _ w1 ⟨R, b1, b2, rfl, h1⟩
  have H1 := Lib.hid h1
  clear h1
  go_wp2_with fail
  go_loopw [4] (fun i wr => ∃ (k : Nat) (Z : List Slp), k ≤ len ∧ i = .int .i64 (k : Int) ∧ Hw w wr R b1 b2 k Z ∧ From xs k Z) (fun i _ => len - (intOf i).toNat)
  case atStart => exact ⟨0, [], Nat.zero_le _, rfl, H1.out, fun s hs => by cases hs⟩
  case round =>
    obtain ⟨k, Z, hk, rfl, hc, hfr⟩ := hrel
    have HC := Lib.hid hc
    have HF := Lib.hid hfr
    by_cases hlt : k < len
    · obtain ⟨c0, c1, c2, f1, f2⟩ := (HA.out.keep hc.bel).2 k hlt
      obtain rfl := (HA.out.1 (by omega)).1
      obtain ⟨op, hop⟩ : ∃ op, op = (xs k).1 := ⟨_, rfl⟩
      obtain ⟨x, hx⟩ : ∃ x, x = (xs k).2.1 := ⟨_, rfl⟩
      obtain ⟨y, hy⟩ : ∃ y, y = (xs k).2.2 := ⟨_, rfl⟩
      rw [← hop] at c0
      rw [← hx] at c1 f1
      rw [← hy] at c2 f2
      have HY := Lib.hid hy
      have HXE := Lib.hid hx
      have F1 := Lib.hid f1
      have F2 := Lib.hid f2
      clear hop hx hy hc hfr f1 f2
      by_cases o0 : op = 0
      · subst o0
        go_wp2_with fail
        have c1d : wr.drew.cell? ⟨blk, off + k * 3 + 1, none⟩ = some (.int .i64 x) := c1
        have c2d : wr.drew.cell? ⟨blk, off + k * 3 + 2, none⟩ = some (.int .i64 y) := c2
        have HX := Lib.hid (fun w' (h : Below w.heap.size w w') => (HA.out.keep h).2 k hlt)
        have HCD := Lib.hid (hw_add (show Hw w wr.drew R b1 b2 k Z from HC.out.kept ((Below.refl _ _).drew)) (by omega) x y F1.out F2.out)
        go_region_held3 (fun w' => w'.cell? ⟨blk, off + k * 3 + 1, none⟩ = some (.int .i64 x) ∧ w'.cell? ⟨blk, off + k * 3 + 2, none⟩ = some (.int .i64 y)) (first | exact ⟨c1d, c2d⟩ | exact ⟨e1, e2⟩) (first
          | (go_at_call 9
             (with_reducible refine (HCD.out).mono ?_)
             rintro _ w3 ⟨rfl, Z', h1, h2⟩
             have e1 := (HX.out _ h1.bel).2.1
             have e2 := (HX.out _ h1.bel).2.2.1
             have HC3 := Lib.hid h1
             have HZ3 := Lib.hid h2
             rw [← HXE.out] at e1
             rw [← HY.out] at e2
             clear h1 h2))
        all_goals (
          go_wp2_with fail
          exact ⟨⟨k + 1, Z', by omega, by go_num, HC3.out, by
            rcases HZ3.out with rfl | rfl
            · exact HF.out.up
            · exact HF.out.add x y HY.out⟩, by simp [intOf]; omega⟩)
      · have o0' : (op == 0) = false := by simpa using o0
        by_cases o1 : op = 1
        · subst o1
          have HWK := Lib.hid (hw_wake HC.out (by omega) y F2.out _ rfl)
          go_wp2_with (first
            | (go_at_call 12
               (with_reducible refine (HWK.out).mono ?_)
               rintro _ w3 ⟨V, rfl, h1, h2⟩
               have HC3 := Lib.hid h1
               clear h1 h2)
            | fail)
          exact ⟨⟨k + 1, _, by omega, by go_num, HC3.out.mono (by omega), (HF.out.wkF _).up⟩, by simp [intOf]; omega⟩
        · have o1' : (op == 1) = false := by simpa using o1
          have HWK := Lib.hid (hw_remove HC.out (by omega) x F1.out)
          go_wp2_with (first
            | (go_at_call 14
               (with_reducible refine (HWK.out).mono ?_)
               rintro _ w3 ⟨rfl, h1⟩
               have HC3 := Lib.hid h1
               clear h1)
            | fail)
          exact ⟨⟨k + 1, _, by omega, by go_num, HC3.out.mono (by omega), (HF.out.del x).up⟩, by simp [intOf]; omega⟩
    · obtain rfl : k = len := by omega
      clear hc hfr hlt
      go_wp2
      go_ret
      exact ⟨R, b1, b2, Z, rfl, HC.out, HF.out⟩
end Go.Proofs.Ytgfaegnpogdneaa
