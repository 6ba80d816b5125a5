/- card: slices of fields; how many of a kind. -/
import Derived.Test.YtlcchkpjcekinaaGreatDoorZaa
namespace Go.Proofs.YtlcchkpjcekinaaGreatDoor
open Go.RowKit
open Go.Lib
set_option linter.unusedVariables false
set_option linter.unusedSimpArgs false
set_option maxRecDepth 100000
abbrev F3 := Int × Int × ByteArray
def fV (f : F3) : Value := fieldV f.1 f.2.1 f.2.2
/-- A slice of fields. -/
def Fv (w : World) (A : Option Addr) (cap b off : Nat) (L : List F3) : Prop := L.length ≤ cap ∧ ∀ j f, L[j]? = some f → A = some ⟨b, off, none⟩ ∧ b < w.heap.size ∧ w.cell? ⟨b, off + j * 3, none⟩ = some (.int .i64 f.1) ∧ w.cell? ⟨b, off + j * 3 + 1, none⟩ = some (.int .i64 f.2.1) ∧ w.cell? ⟨b, off + j * 3 + 2, none⟩ = some (.string f.2.2)
theorem Fv.below {w w' : World} {A : Option Addr} {cap b off : Nat} {L : List F3} (h : Fv w A cap b off L) (hb : Below w.heap.size w w') : Fv w' A cap b off L :=
  ⟨h.1, fun j f hj => by
    obtain ⟨h1, h2, h3, h4, h5⟩ := h.2 j f hj
    exact ⟨h1, Nat.lt_of_lt_of_le h2 hb.size, by rw [hb.cell (p := ⟨b, _, none⟩) h2]; exact h3, by rw [hb.cell (p := ⟨b, _, none⟩) h2]; exact h4, by rw [hb.cell (p := ⟨b, _, none⟩) h2]; exact h5⟩⟩
def cntF (k : Int) (L : List F3) (i : Nat) : Nat := ((L.take i).filter fun f => f.1 == k).length
theorem cntF_le (k : Int) (L : List F3) (i : Nat) : cntF k L i ≤ L.length := by
  unfold cntF
  exact Nat.le_trans (List.length_filter_le _ _) (by rw [List.length_take]; omega)
theorem cntF_step {k : Int} {L : List F3} {i : Nat} {f : F3} (h : L[i]? = some f) : cntF k L (i + 1) = cntF k L i + if f.1 = k then 1 else 0 := by
  unfold cntF
  rw [List.take_add_one, h, List.filter_append, List.length_append]
  congr 1
  simp only [Option.toList, List.filter_cons, List.filter_nil]
  by_cases e : f.1 = k
  · rw [if_pos e, if_pos (by simpa using e)]; rfl
  · rw [if_neg e, if_neg (by simpa using e)]; rfl
set_option maxHeartbeats 4000000 in
theorem count_any {w : World} {A : Option Addr} {cap b off : Nat} {L : List F3} (h : Fv w A cap b off L) (hn : L.length ≤ 100000) (k : Int) (m : Nat) (hm : cntF k L L.length = m) : Calls Tryz.prog 57 #[.slice A L.length cap, .int .i64 k] w fun e w' => e = .returned (.int .i64 (m : Int)) ∧ Below w.heap.size w w' := by
  have H := Lib.hid h
  have HM := Lib.hid hm
  obtain ⟨n, hnn⟩ : ∃ n, L.length = n := ⟨_, rfl⟩
  have HN := Lib.hid hnn
  rw [hnn] at hn ⊢
  have hnI : (n : Int) ≤ 100000 := by omega
  clear h hm hnn
  go_enter Tryz.func57, Tryz.ntmps57
  go_wp2_with fail
  go_loopw [5, 10] (fun t i wr => ∃ q : Nat, q ≤ n ∧ t = .int .i64 (cntF k L q : Int) ∧ i = .int .i64 (q : Int) ∧ Below w.heap.size w wr) (fun _ i _ => n - (intOf i).toNat)
  case atStart => exact ⟨0, Nat.zero_le _, rfl, rfl, Below.refl _ _⟩
  case round =>
    obtain ⟨q, hq, rfl, rfl, hb⟩ := hrel
    have hcl := cntF_le k L q
    obtain ⟨kc, hkc⟩ : ∃ kc, cntF k L q = kc := ⟨_, rfl⟩
    rw [hkc] at hcl ⊢
    have hkl : kc ≤ 100000 := by have := HN.out; omega
    have HKC := Lib.hid hkc
    have HB := Lib.hid hb
    clear hkc hcl hb
    by_cases hql : q < n
    · obtain ⟨f, hf⟩ : ∃ f, L[q]? = some f := ⟨L[q]'(by rw [HN.out]; exact hql), List.getElem?_eq_getElem _⟩
      obtain ⟨rfl, hbl, c0, c1, c2⟩ := (H.out.below HB.out).2 q f hf
      have HST := Lib.hid (cntF_step (k := k) hf)
      obtain ⟨f1, f2, f3⟩ := f
      simp only at c0 c1 c2 HST
      have hqI : (q : Int) < (n : Int) := by omega
      obtain ⟨n9, hn9⟩ : ∃ n, wr.heap.size = n := ⟨_, rfl⟩
      obtain ⟨W1, hW1⟩ : ∃ W1, wr.alloc (.cells #[.int .i64 0, .int .i64 0, .string { data := #[] }] 37) = W1 := ⟨_, rfl⟩
      have HC1 := Lib.hid (show Below wr.heap.size wr W1 from hW1 ▸ (Below.refl _ wr).alloc (Nat.le_refl _) _)
      have HY1 := Lib.hid (show Blk W1 n9 37 #[.int .i64 0, .int .i64 0, .string .empty] from hn9 ▸ hW1 ▸ Blk.new wr 37 _)
      have y0 := HY1.out.cell 0
      have y1 := HY1.out.cell 1
      have y2 := HY1.out.cell 2
      have g0 := HY1.out.frozen 0
      have g1 := HY1.out.frozen 1
      have g2 := HY1.out.frozen 2
      obtain ⟨w2, hw2⟩ : ∃ w2, ((W1.setCell ⟨n9, 0, none⟩ (.int .i64 f1)).setCell ⟨n9, 1, none⟩ (.int .i64 f2)).setCell ⟨n9, 2, none⟩ (.string f3) = w2 := ⟨_, rfl⟩
      have HB2 := Lib.hid (show Blk w2 n9 37 #[.int .i64 f1, .int .i64 f2, .string f3] from hw2 ▸ (((HY1.out.set_ 0 _).set_ 1 _).set_ 2 _))
      have HC2 := Lib.hid (show Below n9 wr w2 from hw2 ▸ (((((HC1.out.mono (Nat.le_of_eq hn9.symm)).setCell (p := ⟨n9, 0, none⟩) (Nat.le_refl _) _).setCell (p := ⟨n9, 1, none⟩) (Nat.le_refl _) _).setCell (p := ⟨n9, 2, none⟩) (Nat.le_refl _) _)))
      have HW2 := Lib.hid (HB.out.trans (HC2.out.mono (by have := HB.out.size; omega)))
      have z0 : w2.cell? ⟨n9, 0, none⟩ = some (.int .i64 f1) := HB2.out.cell 0
      clear hf hbl
      by_cases he : f1 = k
      · have heb : (f1 == k) = true := by simpa using he
        have HST2 := Lib.hid (show cntF k L (q + 1) = kc + 1 from by rw [HST.out, if_pos he, HKC.out])
        clear he
        go_wp2_with fail
        try rw [hw2]
        clear hw2 y0 y1 y2 g0 g1 g2 hW1 c0 c1 c2
        go_wp2_with fail
        go_roundw
        case rel => exact ⟨q + 1, by omega, by rw [HST2.out]; go_num, by go_num, HW2.out⟩
        case measure => simp [intOf]; omega
      · have heb : (f1 == k) = false := by simpa using he
        have HST2 := Lib.hid (show cntF k L (q + 1) = kc from by rw [HST.out, if_neg he, HKC.out]; rfl)
        clear he
        go_wp2_with fail
        try rw [hw2]
        clear hw2 y0 y1 y2 g0 g1 g2 hW1 c0 c1 c2
        go_wp2_with fail
        go_roundw
        case rel => exact ⟨q + 1, by omega, by rw [HST2.out], by go_num, HW2.out⟩
        case measure => simp [intOf]; omega
    · obtain rfl : q = n := by omega
      obtain rfl : kc = m := by rw [← HKC.out, ← HM.out, HN.out]
      clear hql
      go_wp2
      go_ret
      exact ⟨rfl, HB.out⟩
end Go.Proofs.YtlcchkpjcekinaaGreatDoor
