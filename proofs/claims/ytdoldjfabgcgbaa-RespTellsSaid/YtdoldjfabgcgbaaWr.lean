/- A reader, whatever its state: numbers and texts; wire's reader. -/
import Derived.Test.YtdoldjfabgcgbaaWn
import Derived.Test.YtdoldjfabgcgbaaBx
namespace Go.Proofs.Ytdoldjfabgcgbaa
open Go.RowKit
set_option linter.unusedVariables false
set_option linter.unusedSimpArgs false
set_option maxRecDepth 20000
/-- Where a reader stands, and its first error. -/
structure Ps where
  p : Nat
  e : Int
def numP (l : List UInt8) (q : Ps) : Int × Ps := if q.e ≠ 0 then (0, q) else if (rt (l.drop q.p)).2.2 = 0 then (((rt (l.drop q.p)).1 : Int), ⟨q.p + (rt (l.drop q.p)).2.1, 0⟩) else (0, ⟨q.p, (rt (l.drop q.p)).2.2⟩)
def textP (most : Nat) (l : List UInt8) (q : Ps) : ByteArray × Ps :=
  if q.e ≠ 0 then (⟨#[]⟩, q) else if (rt (l.drop q.p)).2.2 ≠ 0 then (⟨#[]⟩, ⟨q.p, (rt (l.drop q.p)).2.2⟩)
  else if l.length < q.p + (rt (l.drop q.p)).2.1 + (rt (l.drop q.p)).1 then (⟨#[]⟩, ⟨q.p, 14⟩) else if most < (rt (l.drop q.p)).1 then (⟨#[]⟩, ⟨q.p, 2⟩)
  else (⟨((l.drop (q.p + (rt (l.drop q.p)).2.1)).take (rt (l.drop q.p)).1).toArray⟩, ⟨q.p + (rt (l.drop q.p)).2.1 + (rt (l.drop q.p)).1, 0⟩)
theorem rt_in {l : List UInt8} {p : Nat} (hp : p ≤ l.length) (h : (rt (l.drop p)).2.2 = 0) : p + (rt (l.drop p)).2.1 ≤ l.length := by
  have := (rt_ok (l := l.drop p) (n := (rt (l.drop p)).1) (k := (rt (l.drop p)).2.1) (by rw [← h])).2.2.1
  rw [List.length_drop] at this
  omega
theorem numP_in {l : List UInt8} {q : Ps} (hp : q.p ≤ l.length) : (numP l q).2.p ≤ l.length := by
  unfold numP
  split
  · exact hp
  · split
    · rename_i h; exact rt_in hp h
    · exact hp
theorem textP_in {most : Nat} {l : List UInt8} {q : Ps} (hp : q.p ≤ l.length) : (textP most l q).2.p ≤ l.length := by
  unfold textP
  split
  · exact hp
  · split
    · exact hp
    · split
      · exact hp
      · split
        · exact hp
        · show _ + _ + _ ≤ _; omega
section
variable {w : World} {g : Nat} {s : ByteArray} {q : Ps}
theorem sz_list (s : ByteArray) : s.data.toList.length = s.size := by rw [Array.length_toList]; rfl
theorem numP_any (h : Rd w g s q.p q.e) (hs : s.size ≤ 1000000) (hp : q.p ≤ s.size) : Calls Try.prog 21 #[.pointer (some ⟨g, 0, none⟩)] w fun r w' => r = .returned (.int .i64 (numP s.data.toList q).1) ∧ Rd w' g s (numP s.data.toList q).2.p (numP s.data.toList q).2.e ∧ w.grownBy w' (some g) := by
  unfold numP
  by_cases he : q.e = 0
  · rw [if_neg (by omega)]
    rw [he] at h
    by_cases hr : (rt (s.data.toList.drop q.p)).2.2 = 0
    · rw [if_pos hr]
      refine (wnum_ok h hs hp (n := (rt (s.data.toList.drop q.p)).1) (k := (rt (s.data.toList.drop q.p)).2.1) (by rw [← hr])).mono ?_
      rintro r w' ⟨h1, h2, h3⟩
      exact ⟨h1, by simpa using h2, h3⟩
    · rw [if_neg hr]
      exact wnum_bad h hs hp rfl hr
  · rw [if_pos he]
    exact wnum_err h he
theorem textP_any (h : Rd w g s q.p q.e) (hs : s.size ≤ 1000000) (hp : q.p ≤ s.size) (most : Nat) : Calls Try.prog 43 #[.pointer (some ⟨g, 0, none⟩), .int .i64 (most : Int)] w fun r w' => r = .returned (.string (textP most s.data.toList q).1) ∧ Rd w' g s (textP most s.data.toList q).2.p (textP most s.data.toList q).2.e ∧ w.grownBy w' (some g) := by
  unfold textP
  by_cases he : q.e = 0
  · rw [if_neg (by omega)]
    rw [he] at h
    by_cases hr : (rt (s.data.toList.drop q.p)).2.2 = 0
    · rw [if_neg (by omega)]
      have hk := rt_in (l := s.data.toList) (p := q.p) (by rw [sz_list]; exact hp) hr
      rw [sz_list] at hk ⊢
      have hrt : rt (s.data.toList.drop q.p) = ((rt (s.data.toList.drop q.p)).1, (rt (s.data.toList.drop q.p)).2.1, 0) := by rw [← hr]
      by_cases h1 : s.size < q.p + (rt (s.data.toList.drop q.p)).2.1 + (rt (s.data.toList.drop q.p)).1
      · rw [if_pos h1]
        exact wtext_over (P := q.p) (e := 14) h hs hp hrt hk (by rw [if_pos (by omega)]) (by decide)
      · rw [if_neg h1]
        by_cases h2 : most < (rt (s.data.toList.drop q.p)).1
        · rw [if_pos h2]
          exact wtext_over (P := q.p) (e := 2) h hs hp hrt hk (by rw [if_neg (by omega), if_pos (by omega)]) (by decide)
        · rw [if_neg h2]
          refine (wtext_ok h hs hp hrt (by omega) (by omega)).mono ?_
          rintro r w' ⟨g1, g2, g3⟩
          exact ⟨g1, by simpa using g2, g3⟩
    · rw [if_pos hr]
      exact wtext_bad h hs hp rfl hr
  · rw [if_pos he]
    exact wtext_err h he _
end
/-- wire's reader: over pack's; has a number been too great? -/
structure Wi (w : World) (G g : Nat) (s : ByteArray) (q : Ps) (x : Bool) : Prop where
  bx : Blk w G 48 #[.pointer (some ⟨g, 0, none⟩), .bool x]
  rd : Rd w g s q.p q.e
  ne : G ≠ g
  hp : q.p ≤ s.size
/-- Two blocks may have turned. -/
structure Tw2 (w w' : World) (G g : Nat) : Prop where
  os : w'.os = w.os
  tape : w'.tape = w.tape
  output : w'.output = w.output
  size : w.heap.size ≤ w'.heap.size
  block : ∀ j, j < w.heap.size → j ≠ G → j ≠ g → w'.heap[j]? = w.heap[j]?
theorem Tw2.of {w w' : World} {G g : Nat} (h : w.grownBy w' (some g)) : Tw2 w w' G g := ⟨h.os, h.tape, h.output, h.size, fun j h1 _ h3 => h.block j h1 (by simpa using h3)⟩
theorem Tw2.refl (w : World) (G g : Nat) : Tw2 w w G g := ⟨rfl, rfl, rfl, Nat.le_refl _, fun _ _ _ _ => rfl⟩
theorem Tw2.setG {w w' : World} {G g : Nat} (h : Tw2 w w' G g) (i : Nat) (u : Value) : Tw2 w (w'.setCell ⟨G, i, none⟩ u) G g :=
  ⟨h.os, h.tape, h.output, by simpa [World.setCell] using h.size, fun j h1 h2 h3 => (Below.heap_setCell w' ⟨G, i, none⟩ u j h2).trans (h.block j h1 h2 h3)⟩
theorem Tw2.trans {a b c : World} {G g : Nat} (h : Tw2 a b G g) (k : Tw2 b c G g) : Tw2 a c G g :=
  ⟨k.os.trans h.os, k.tape.trans h.tape, k.output.trans h.output, Nat.le_trans h.size k.size, fun j h1 h2 h3 => (k.block j (Nat.lt_of_lt_of_le h1 h.size) h2 h3).trans (h.block j h1 h2 h3)⟩
theorem Tw2.below {a b : World} {G g B : Nat} (h : Tw2 a b G g) (h1 : B ≤ G) (h2 : B ≤ g) (h3 : B ≤ a.heap.size) : Below B a b :=
  ⟨h.os, h.tape, h.output, h.size, fun j hj => h.block j (by omega) (by omega) (by omega)⟩
def belowP (most : Nat) (l : List UInt8) (q : Ps) (x : Bool) : Int × Ps × Bool := if (most : Int) < (numP l q).1 then (0, (numP l q).2, true) else ((numP l q).1, (numP l q).2, x)
section
variable {w : World} {G g : Nat} {s : ByteArray} {q : Ps} {x : Bool}
set_option maxHeartbeats 2000000 in
theorem below_any (h : Wi w G g s q x) (hs : s.size ≤ 1000000) (most : Nat) : Calls Try.prog 20 #[.pointer (some ⟨G, 0, none⟩), .int .i64 (most : Int)] w fun r w' => r = .returned (.int .i64 (belowP most s.data.toList q x).1) ∧ Wi w' G g s (belowP most s.data.toList q x).2.1 (belowP most s.data.toList q x).2.2 ∧ Tw2 w w' G g := by
  have c0 := h.bx.cell 0
  have HN := Lib.hid (numP_any h.rd hs h.hp)
  have HIN := Lib.hid (show (numP s.data.toList q).2.p ≤ s.size by have := numP_in (l := s.data.toList) (q := q) (by rw [sz_list]; exact h.hp); rwa [sz_list] at this)
  have HB := Lib.hid h
  obtain ⟨r, hr⟩ : ∃ r, belowP most s.data.toList q x = r := ⟨_, rfl⟩
  have HR := Lib.hid (show (if (most : Int) < (numP s.data.toList q).1 then (0, (numP s.data.toList q).2, true) else ((numP s.data.toList q).1, (numP s.data.toList q).2, x)) = r from hr)
  rw [hr]
  obtain ⟨⟨n, q2⟩, hn⟩ : ∃ y, numP s.data.toList q = y := ⟨_, rfl⟩
  rw [hn] at HN HR HIN
  simp only at HN HR HIN
  clear h hr hn
  go_enter Try.func20, Try.ntmps20
  go_wp2_with fail
  refine HN.out.mono ?_
  rintro _ w2 ⟨rfl, h1, h2⟩
  have HB2 := Lib.hid (show Blk w2 G 48 #[.pointer (some ⟨g, 0, none⟩), .bool x] from HB.out.bx.grown h2 (by simpa using HB.out.ne))
  have HR2 := Lib.hid h1
  have HT := Lib.hid (Tw2.of (G := G) h2)
  have d1 := HB2.out.cell 1
  have f1 := HB2.out.frozen 1
  clear h1 h2
  by_cases hm : (most : Int) < n
  · have H0 := Lib.hid (show r = (0, q2, true) by rw [← HR.out, if_pos hm])
    go_wp2
    go_ret
    rw [H0.out]
    exact ⟨rfl, ⟨HB2.out.set_ 1 (.bool true), HR2.out.far (p := ⟨G, 1, none⟩) (Ne.symm HB.out.ne) _, HB.out.ne, HIN.out⟩, HT.out.setG 1 _⟩
  · have H0 := Lib.hid (show r = (n, q2, x) by rw [← HR.out, if_neg hm])
    go_wp2
    go_ret
    rw [H0.out]
    exact ⟨rfl, ⟨HB2.out, HR2.out, HB.out.ne, HIN.out⟩, HT.out⟩
def markP (l : List UInt8) (q : Ps) (x : Bool) : Bool × Ps × Bool := ((belowP 1 l q x).1 == 1, (belowP 1 l q x).2)
theorem wmark_any (h : Wi w G g s q x) (hs : s.size ≤ 1000000) : Calls Try.prog 23 #[.pointer (some ⟨G, 0, none⟩)] w fun r w' => r = .returned (.bool (markP s.data.toList q x).1) ∧ Wi w' G g s (markP s.data.toList q x).2.1 (markP s.data.toList q x).2.2 ∧ Tw2 w w' G g := by
  have HN := Lib.hid (below_any h hs 1)
  unfold markP
  obtain ⟨⟨n, q2, x2⟩, hn⟩ : ∃ y, belowP 1 s.data.toList q x = y := ⟨_, rfl⟩
  rw [hn] at HN ⊢
  simp only at HN ⊢
  obtain ⟨bq, hbq⟩ : ∃ b, (n == 1) = b := ⟨_, rfl⟩
  rw [hbq]
  clear h hn
  go_enter Try.func23, Try.ntmps23
  go_wp2_with fail
  refine HN.out.mono ?_
  rintro _ w2 ⟨rfl, h1, h2⟩
  have H1 := Lib.hid h1
  have H2 := Lib.hid h2
  clear h1 h2
  go_wp2
  go_ret
  exact ⟨rfl, H1.out, H2.out⟩
theorem field_any (h : Wi w G g s q x) (hs : s.size ≤ 1000000) : Calls Try.prog 22 #[.pointer (some ⟨G, 0, none⟩)] w fun r w' => r = .returned (.string (textP 20000 s.data.toList q).1) ∧ Wi w' G g s (textP 20000 s.data.toList q).2 x ∧ Tw2 w w' G g := by
  have c0 := h.bx.cell 0
  have HN := Lib.hid (textP_any h.rd hs h.hp 20000)
  have HIN := Lib.hid (show (textP 20000 s.data.toList q).2.p ≤ s.size by have := textP_in (most := 20000) (l := s.data.toList) (q := q) (by rw [sz_list]; exact h.hp); rwa [sz_list] at this)
  have HB := Lib.hid h
  obtain ⟨⟨t, q2⟩, hn⟩ : ∃ y, textP 20000 s.data.toList q = y := ⟨_, rfl⟩
  rw [hn] at HN HIN ⊢
  simp only at HN HIN ⊢
  clear h hn
  go_enter Try.func22, Try.ntmps22
  go_wp2_with fail
  refine HN.out.mono ?_
  rintro _ w2 ⟨rfl, h1, h2⟩
  have H1 := Lib.hid h1
  have HB2 := Lib.hid (show Blk w2 G 48 #[.pointer (some ⟨g, 0, none⟩), .bool x] from HB.out.bx.grown h2 (by simpa using HB.out.ne))
  have HT := Lib.hid (Tw2.of (G := G) h2)
  clear h1 h2
  go_wp2
  go_ret
  exact ⟨rfl, ⟨HB2.out, H1.out, HB.out.ne, HIN.out⟩, HT.out⟩
theorem wnum_any (h : Wi w G g s q x) (hs : s.size ≤ 1000000) : Calls Try.prog 21 #[.pointer (some ⟨g, 0, none⟩)] w fun r w' => r = .returned (.int .i64 (numP s.data.toList q).1) ∧ Wi w' G g s (numP s.data.toList q).2 x ∧ Tw2 w w' G g := by
  refine (numP_any h.rd hs h.hp).mono ?_
  rintro r w' ⟨h1, h2, h3⟩
  have hin : (numP s.data.toList q).2.p ≤ s.size := by have := numP_in (l := s.data.toList) (q := q) (by rw [sz_list]; exact h.hp); rwa [sz_list] at this
  exact ⟨h1, ⟨h.bx.grown h3 (by simpa using h.ne), h2, h.ne, hin⟩, Tw2.of h3⟩
end
end Go.Proofs.Ytdoldjfabgcgbaa
