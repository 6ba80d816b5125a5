/- Ints, at two rows that hold the same. -/
import Derived.Test.YtchjgojagmhpeaaRa
namespace Go.Proofs.Ytchjgojagmhpeaa
open Go.RowKit Go.Maps
open Go.Lib
set_option linter.unusedVariables false
set_option linter.unusedSimpArgs false
set_option maxRecDepth 20000
/-- Numbers that lie in memory. -/
structure Nl (w : World) (A : Option Addr) (cap g : Nat) (ys : List Int) : Prop where
  le : ys.length ≤ cap
  cell : ∀ (j : Nat) (x : Int), ys[j]? = some x → A = some ⟨g, 0, none⟩ ∧ g < w.heap.size ∧ w.cell? ⟨g, j, none⟩ = some (.int .i64 x)
theorem Nl.below {w w' : World} {A : Option Addr} {cap g : Nat} {ys : List Int} (h : Nl w A cap g ys) (hb : Below w.heap.size w w') : Nl w' A cap g ys :=
  ⟨h.le, fun j x hj => by
    obtain ⟨h1, h2, h3⟩ := h.cell j x hj
    exact ⟨h1, Nat.lt_of_lt_of_le h2 hb.size, (World.cell?_of_block (a := ⟨g, j, none⟩) (hb.block g h2)).trans h3⟩⟩
set_option maxHeartbeats 4000000 in
theorem ints_same {w : World} {A B : Option Addr} {capA capB ga gb : Nat} {ys : List Int} (h : Nl w A capA ga ys) (k : Nl w B capB gb ys) (hn : ys.length ≤ 1000000) : Calls Try.prog 20 #[.slice A ys.length capA, .slice B ys.length capB] w fun r w' => r = .returned (.bool true) ∧ Below w.heap.size w w' := by
  have HA := Lib.hid h
  have HB := Lib.hid k
  have hla := h.le
  have hlb := k.le
  have hnI : (ys.length : Int) ≤ 1000000 := by omega
  have H0 := Lib.hid (Below.refl w.heap.size w)
  clear h k
  go_enter Try.func20, Try.ntmps20
  go_wp2
  go_loopw [5] (fun i wr => ∃ q : Nat, q ≤ ys.length ∧ i = .int .i64 (q : Int) ∧ Below w.heap.size w wr) (fun i _ => ys.length - (intOf i).toNat)
  case atStart => exact ⟨0, Nat.zero_le _, rfl, H0.out⟩
  case round =>
    obtain ⟨q, hq, rfl, hB⟩ := hrel
    have HR := Lib.hid hB
    clear hB
    by_cases hql : q < ys.length
    · obtain ⟨x, hx⟩ : ∃ x, ys[q]? = some x := ⟨ys[q], List.getElem?_eq_getElem _⟩
      obtain ⟨rfl, b1, c1⟩ := (HA.out.below HR.out).cell q x hx
      obtain ⟨rfl, b2, c2⟩ := (HB.out.below HR.out).cell q x hx
      have hqI : (q : Int) < (ys.length : Int) := by omega
      clear hx
      go_wp2_with fail
      go_quiet (fail)
      have HQ := Lib.hid (below_drewN HR.out nq)
      go_wp2
      go_roundw
      case rel => exact ⟨q + 1, by omega, by go_num, HQ.out⟩
      case measure => simp [intOf]; omega
    · obtain rfl : q = ys.length := by omega
      go_wp2
      go_ret
      exact ⟨rfl, HR.out⟩
end Go.Proofs.Ytchjgojagmhpeaa
