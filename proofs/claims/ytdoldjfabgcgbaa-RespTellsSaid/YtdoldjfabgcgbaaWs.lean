/- wire's reader: how it begins, whether all is read; the items of an answer. -/
import Derived.Test.YtdoldjfabgcgbaaWr
import Derived.Test.YtdoldjfabgcgbaaLk
import Derived.Deep.RegionWith
namespace Go.Proofs.Ytdoldjfabgcgbaa
open Go.RowKit
open Go.Lib hiding intOf
set_option linter.unusedVariables false
set_option linter.unusedSimpArgs false
set_option maxRecDepth 20000
theorem wread_any {A : Option Addr} {len cap b off : Nat} {w : World} {l : List UInt8} (h : Byt w A len cap b off l) :
    Calls Try.prog 19 #[.slice A len cap] w fun e w' => ∃ G g, e = .returned (.pointer (some ⟨G, 0, none⟩)) ∧ Wi w' G g ⟨l.toArray⟩ ⟨0, 0⟩ false ∧ w.heap.size ≤ g ∧ w.heap.size ≤ G ∧ Below w.heap.size w w' := by
  have HR := Lib.hid (read_any h)
  clear h
  go_enter Try.func19, Try.ntmps19
  go_wp2_with fail
  refine HR.out.mono ?_
  rintro _ w1 ⟨rfl, h1, h2⟩
  have H1 := Lib.hid h1
  have H2 := Lib.hid h2
  clear h1 h2
  go_wp2
  go_ret
  have hlt := H1.out.lt
  refine ⟨w1.heap.size, w.heap.size, rfl, ⟨Blk.new w1 _ _, H1.out.alloc _, by omega, Nat.zero_le _⟩, Nat.le_refl _, by omega, H2.out.alloc H2.out.size _⟩
def doneP (n : Nat) (q : Ps) (x : Bool) : Bool := !x && (q.e == 0) && decide (q.p = n)
section
variable {w : World} {G g : Nat} {s : ByteArray} {q : Ps} {x : Bool}
theorem Wi.keep {w' : World} (h : Wi w G g s q x) (hb : Below w.heap.size w w') : Wi w' G g s q x := ⟨h.bx.below hb h.bx.lt, h.rd.below hb h.rd.lt, h.ne, h.hp⟩
set_option maxHeartbeats 2000000 in
theorem wdone_any (h : Wi w G g s q x) (hs : s.size ≤ 1000000) : Calls Try.prog 25 #[.pointer (some ⟨G, 0, none⟩)] w fun r w' => r = .returned (.bool (doneP s.size q x)) ∧ Below w.heap.size w w' := by
  have c0 := h.bx.cell 0
  have c1 := h.bx.cell 1
  have HW := Lib.hid h
  have hp := h.hp
  obtain ⟨r, hr⟩ : ∃ r, doneP s.size q x = r := ⟨_, rfl⟩
  have HR := Lib.hid (show (!x && (q.e == 0) && decide (q.p = s.size)) = r from hr)
  rw [hr]
  clear h hr
  cases x with
  | true =>
    have H0 := Lib.hid (show r = false by rw [← HR.out]; rfl)
    go_enter Try.func25, Try.ntmps25
    go_wp2
    go_ret
    exact ⟨by rw [H0.out]; rfl, Below.refl _ _⟩
  | false =>
    have HE := Lib.hid (err_any HW.out.rd)
    cases he : (q.e == 0) with
    | false =>
      have H0 := Lib.hid (show r = false by rw [← HR.out, he]; rfl)
      go_enter Try.func25, Try.ntmps25
      go_wp2_with fail
      refine HE.out.mono ?_
      rintro _ w1 ⟨rfl, h1⟩
      have H1 := Lib.hid h1
      clear h1
      go_wp2
      go_ret
      exact ⟨by rw [H0.out]; rfl, H1.out⟩
    | true =>
      have HQ := Lib.hid (show r = decide (q.p = s.size) by rw [← HR.out, he]; rfl)
      go_enter Try.func25, Try.ntmps25
      go_wp2_with fail
      refine HE.out.mono ?_
      rintro _ w1 ⟨rfl, h1⟩
      have HW1 := Lib.hid (HW.out.keep h1)
      have H1 := Lib.hid h1
      have d0 := HW1.out.bx.cell 0
      have HL := Lib.hid (left_any HW1.out.rd (by omega) (by omega) hs)
      clear h1
      by_cases hq : q.p = s.size
      · have H0 := Lib.hid (show r = true by rw [HQ.out, decide_eq_true hq])
        have dl : ((s.size : Int) - (q.p : Int) == 0) = true := by simp; omega
        go_wp2_with fail
        refine HL.out.mono ?_
        rintro _ w2 ⟨rfl, h1⟩
        have H2 := Lib.hid (H1.out.trans (h1.mono H1.out.size))
        clear h1
        go_wp2
        go_ret
        exact ⟨by rw [H0.out]; rfl, H2.out⟩
      · have H0 := Lib.hid (show r = false by rw [HQ.out, decide_eq_false hq])
        have dl : ((s.size : Int) - (q.p : Int) == 0) = false := by simp; omega
        go_wp2_with fail
        refine HL.out.mono ?_
        rintro _ w2 ⟨rfl, h1⟩
        have H2 := Lib.hid (H1.out.trans (h1.mono H1.out.size))
        clear h1
        go_wp2
        go_ret
        exact ⟨by rw [H0.out]; rfl, H2.out⟩
end
def itP (l : List UInt8) (q : Ps) (x : Bool) : It × Ps × Bool :=
  (⟨(textP 20000 l q).1, (numP l (textP 20000 l q).2).1, (markP l (numP l (textP 20000 l q).2).2 x).1, (textP 20000 l (markP l (numP l (textP 20000 l q).2).2 x).2.1).1⟩,
   (textP 20000 l (markP l (numP l (textP 20000 l q).2).2 x).2.1).2, (markP l (numP l (textP 20000 l q).2).2 x).2.2)
def itsP : Nat → List UInt8 → Ps → Bool → List It × Ps × Bool
  | 0, _, q, x => ([], q, x)
  | n + 1, l, q, x => if q.e ≠ 0 then ([], q, x) else ((itP l q x).1 :: (itsP n l (itP l q x).2.1 (itP l q x).2.2).1, (itsP n l (itP l q x).2.1 (itP l q x).2.2).2)
end Go.Proofs.Ytdoldjfabgcgbaa
