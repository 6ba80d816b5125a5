/- The items of an answer, read. -/
import Derived.Test.YtdoldjfabgcgbaaWs
import Derived.OwnWalk
import Derived.Laws.AppendOwn
namespace Go.Proofs.Ytdoldjfabgcgbaa
open Go.RowKit
open Go.Lib hiding intOf
set_option linter.unusedVariables false
set_option linter.unusedSimpArgs false
set_option maxRecDepth 20000
theorem numP_step (l : List UInt8) (q : Ps) : q.p ≤ (numP l q).2.p ∧ ((numP l q).2.e = 0 → q.e = 0) := by
  unfold numP
  split
  · rename_i h; exact ⟨Nat.le_refl _, fun e => e⟩
  · rename_i h
    split
    · exact ⟨Nat.le_add_right _ _, fun _ => by omega⟩
    · exact ⟨Nat.le_refl _, fun _ => by omega⟩
theorem textP_step (most : Nat) (l : List UInt8) (q : Ps) : q.p ≤ (textP most l q).2.p ∧ ((textP most l q).2.e = 0 → q.e = 0 ∧ q.p + 1 ≤ (textP most l q).2.p) := by
  unfold textP
  split
  · rename_i h; exact ⟨Nat.le_refl _, fun e => absurd e h⟩
  · rename_i h
    split
    · rename_i h2; exact ⟨Nat.le_refl _, fun e => absurd e h2⟩
    · rename_i h2
      have hk := (rt_ok (l := l.drop q.p) (n := (rt (l.drop q.p)).1) (k := (rt (l.drop q.p)).2.1) (by
        have : (rt (l.drop q.p)).2.2 = 0 := by simpa using h2
        rw [← this])).2.1
      split
      · exact ⟨Nat.le_refl _, fun e => by cases e⟩
      · split
        · exact ⟨Nat.le_refl _, fun e => by cases e⟩
        · exact ⟨by show q.p ≤ _ + _ + _; omega, fun _ => ⟨by omega, by show q.p + 1 ≤ _ + _ + _; omega⟩⟩
theorem belowP_ps (m : Nat) (l : List UInt8) (q : Ps) (x : Bool) : (belowP m l q x).2.1 = (numP l q).2 := by
  unfold belowP
  split <;> rfl
theorem itP_step (l : List UInt8) (q : Ps) (x : Bool) : q.p ≤ (itP l q x).2.1.p ∧ ((itP l q x).2.1.e = 0 → q.p + 1 ≤ (itP l q x).2.1.p) := by
  unfold itP
  simp only
  have h1 := textP_step 20000 l q
  have h2 := numP_step l (textP 20000 l q).2
  have h3 := numP_step l (numP l (textP 20000 l q).2).2
  have e : (markP l (numP l (textP 20000 l q).2).2 x).2.1 = (numP l (numP l (textP 20000 l q).2).2).2 := by unfold markP; exact belowP_ps _ _ _ _
  rw [e]
  have h4 := textP_step 20000 l (numP l (numP l (textP 20000 l q).2).2).2
  refine ⟨by omega, fun he => ?_⟩
  have := h4.2 he
  omega
def itC (t : It) : List Value := [.string t.u, .int .i64 t.v, .bool t.x, .string t.c]
def itsC (xs : List It) : List Value := (xs.map itC).flatten
theorem itsC_len (xs : List It) : (itsC xs).length = xs.length * 4 := by
  induction xs with
  | nil => rfl
  | cons t xs ih => unfold itsC at *; simp only [List.map_cons, List.flatten_cons, List.length_append, List.length_cons, ih]; simp [itC]; omega
theorem itsC_snoc (xs : List It) (t : It) : itsC (xs ++ [t]) = itsC xs ++ itC t := by unfold itsC; simp
theorem itsC_get : ∀ (xs : List It) (j : Nat) (t : It), xs[j]? = some t → ∀ i, i < 4 → (itsC xs)[j * 4 + i]? = (itC t)[i]?
  | [], j, t, h => by simp at h
  | y :: xs, 0, t, h => fun i hi => by
    simp at h; subst h
    have hl : (itC y).length = 4 := rfl
    show ((itC y) ++ itsC xs)[0 * 4 + i]? = _
    rw [Nat.zero_mul, Nat.zero_add, List.getElem?_append_left (by omega)]
  | y :: xs, j + 1, t, h => fun i hi => by
    have hl : (itC y).length = 4 := rfl
    show ((itC y) ++ itsC xs)[(j + 1) * 4 + i]? = _
    rw [List.getElem?_append_right (by omega), hl, show (j + 1) * 4 + i - 4 = j * 4 + i by omega]
    exact itsC_get xs j t (by simpa using h) i hi
theorem own_its {w : World} {base : Nat} {v : Value} {xs : List It} (h : w.ownsRow base 39 4 v xs.length (itsC xs)) : ∃ A cap b, v = .slice A xs.length cap ∧ Its w A xs.length cap b 0 xs := by
  obtain ⟨h1, ⟨rfl, h2⟩ | ⟨g, cap, cur, rfl, hg, hh, hc, hm, hcs, ht⟩⟩ := h
  · have : xs = [] := List.length_eq_zero_iff.1 h2
    subst this
    exact ⟨none, 0, 0, rfl, ⟨rfl, Nat.le_refl _, fun h => absurd h (by simp), fun j t hj => by simp at hj⟩⟩
  · refine ⟨some ⟨g, 0, none⟩, cap, g, rfl, ⟨rfl, hc, fun _ => ⟨rfl, Blk.lt hh⟩, fun j t hj => ?_⟩⟩
    have hjl : j < xs.length := (List.getElem?_eq_some_iff.1 hj).1
    have key : ∀ i, i < 4 → w.cell? ⟨g, 0 + j * 4 + i, none⟩ = (itC t)[i]? := fun i hi => by
      rw [Nat.zero_add, cell_of_row w g _ cur _ (0, 0) hh, ← itsC_get xs j t hj i hi, ← ht, List.getElem?_take, if_pos (by omega), Array.getElem?_toList]
    exact ⟨key 0 (by omega), key 1 (by omega), key 2 (by omega), key 3 (by omega)⟩
theorem own_tw {w1 w2 : World} {base G g : Nat} {e : TypeId} {k n : Nat} {v : Value} {xs : List Value} (h : w1.ownsRow base e k v n xs) (ht : Tw2 w1 w2 G g) (h1 : G < base) (h2 : g < base) : w2.ownsRow base e k v n xs := by
  obtain ⟨h0, h3 | ⟨b, cap, cur, e1, e2, e3, e4⟩⟩ := h
  · exact ⟨h0, .inl h3⟩
  · exact ⟨h0, .inr ⟨b, cap, cur, e1, e2, (ht.block b (Blk.lt e3) (by omega) (by omega)).trans e3, e4⟩⟩
theorem Tw2.ofBelow {w w' : World} {G g : Nat} (h : Below w.heap.size w w') : Tw2 w w' G g := ⟨h.os, h.tape, h.output, h.size, fun j h1 _ _ => h.block j h1⟩
theorem Tw2.far {w0 w : World} {G g : Nat} (h : Tw2 w0 w G g) {p : Addr} (hp : w0.heap.size ≤ p.block) (u : Value) : Tw2 w0 (w.setCell p u) G g :=
  ⟨h.os, h.tape, h.output, by simpa [World.setCell] using h.size, fun j h1 h2 h3 => (Below.heap_setCell w p u j (by omega)).trans (h.block j h1 h2 h3)⟩
/-- Within a round: the reader, the item's box, what has come. -/
structure St (w0 wr : World) (G g X : Nat) (cs : Array Value) (s : ByteArray) (q : Ps) (x : Bool) (v : Value) (n : Nat) (vs : List Value) : Prop where
  wi : Wi wr G g s q x
  ow : wr.ownsRow w0.heap.size 39 4 v n vs
  tw : Tw2 w0 wr G g
  bx : Blk wr X 39 cs
  hX : w0.heap.size ≤ X
  hv : v.ownBlock ≠ some X
  hG : G < w0.heap.size
  hg : g < w0.heap.size
theorem St.call {w0 wr w' : World} {G g X : Nat} {cs : Array Value} {s : ByteArray} {q q' : Ps} {x x' : Bool} {v : Value} {n : Nat} {vs : List Value} (h : St w0 wr G g X cs s q x v n vs) (hw : Wi w' G g s q' x') (ht : Tw2 wr w' G g) : St w0 w' G g X cs s q' x' v n vs :=
  ⟨hw, own_tw h.ow ht h.hG h.hg, h.tw.trans ht, (ht.block X h.bx.lt (by have := h.hX; have := h.hG; omega) (by have := h.hX; have := h.hg; omega)).trans h.bx, h.hX, h.hv, h.hG, h.hg⟩
theorem St.set {w0 wr : World} {G g X : Nat} {cs : Array Value} {s : ByteArray} {q : Ps} {x : Bool} {v : Value} {n : Nat} {vs : List Value} (h : St w0 wr G g X cs s q x v n vs) (i : Nat) (u : Value) : St w0 (wr.setCell ⟨X, i, none⟩ u) G g X (cs.setIfInBounds i u) s q x v n vs :=
  ⟨⟨h.wi.bx.far (p := ⟨X, i, none⟩) (by have := h.hX; have := h.hG; show G ≠ X; omega) u, Blk.far (p := ⟨X, i, none⟩) h.wi.rd (by have := h.hX; have := h.hg; show g ≠ X; omega) u, h.wi.ne, h.wi.hp⟩, by
    obtain ⟨h0, h3 | ⟨b, cap, cur, e1, e2, e3, e4⟩⟩ := h.ow
    · exact ⟨h0, .inl h3⟩
    · refine ⟨h0, .inr ⟨b, cap, cur, e1, e2, (Below.heap_setCell wr ⟨X, i, none⟩ u b ?_).trans e3, e4⟩⟩
      intro e
      have := h.hv
      rw [e1] at this
      exact this (by show some b = some X; rw [e]), h.tw.far h.hX u, h.bx.set_ i u, h.hX, h.hv, h.hG, h.hg⟩
end Go.Proofs.Ytdoldjfabgcgbaa
