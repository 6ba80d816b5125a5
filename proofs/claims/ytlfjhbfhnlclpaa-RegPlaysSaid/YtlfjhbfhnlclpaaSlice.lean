/- A slice that came in, element by element, cell by cell: at plain addresses of a block that was there. -/
import Derived.Test.YtlfjhbfhnlclpaaOpen
namespace Go.Proofs.Ytlfjhbfhnlclpaa
open Go.RowKit
theorem cell_lt {w : World} {p : Addr} {v : Value} (h : w.cell? p = some v) : p.block < w.heap.size := by
  rcases Nat.lt_or_ge p.block w.heap.size with hlt | hge
  · exact hlt
  · unfold World.cell? at h
    rw [Array.getElem?_eq_none hge] at h
    cases h
theorem add_plain (b off n : Nat) : (⟨b, off, none⟩ : Addr).add n = ⟨b, off + n, none⟩ := by
  unfold Addr.add
  split
  · next h => subst h; rfl
  · rfl
theorem slice_at {w : World} {A : Option Addr} {len cap n : Nat} {e : Sh} (S : Sh.ok w (.slice n e) [.slice A len cap]) (hn : 0 < n) :
    ∃ b off, len ≤ cap ∧ cap ≤ maxLen ∧ (0 < len → A = some ⟨b, off, none⟩ ∧ b < w.heap.size) ∧
      ∀ i, i < len → ∃ cs, cs.length = n ∧ Sh.ok w e cs ∧ ∀ j, j < n → w.cell? ⟨b, off + i * n + j, none⟩ = cs[j]? := by
  simp only [Sh.ok] at S
  rcases S with S | ⟨a, l, c, e1, hl, hm, hc⟩
  · simp at S
    obtain ⟨rfl, rfl, rfl⟩ := S
    exact ⟨0, 0, Nat.le_refl _, by unfold maxLen; omega, fun h => absurd h (by omega), fun i h => absurd h (by omega)⟩
  · simp at e1
    obtain ⟨rfl, rfl, rfl⟩ := e1
    rcases Nat.eq_zero_or_pos len with h0 | h0
    · exact ⟨0, 0, hl, hm, fun h => absurd h (by omega), fun i h => absurd h (by omega)⟩
    · obtain ⟨cs, hcs, _⟩ := hc 0 h0
      obtain ⟨_, hlen, hat⟩ := World.cells?_some hcs
      have h00 := hat 0 hn
      rw [List.getElem?_eq_getElem (by omega)] at h00
      have hsp : a.spot = none := by simpa [Addr.add] using World.cell?_spot h00
      have hlt := cell_lt h00
      obtain ⟨b, off, sp⟩ := a
      simp at hsp
      subst hsp
      refine ⟨b, off, hl, hm, fun _ => ⟨rfl, by simpa [Addr.add] using hlt⟩, fun i hi => ?_⟩
      obtain ⟨cs', hcs', hok⟩ := hc i hi
      obtain ⟨_, hlen', hat'⟩ := World.cells?_some hcs'
      refine ⟨cs', hlen', hok, fun j hj => ?_⟩
      have := hat' j hj
      rwa [add_plain, add_plain] at this
end Go.Proofs.Ytlfjhbfhnlclpaa
