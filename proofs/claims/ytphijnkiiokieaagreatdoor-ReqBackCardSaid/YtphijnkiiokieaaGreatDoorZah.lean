/- Valid texts, one behind the other; squeezed. -/
import Derived.Test.YtphijnkiiokieaaGreatDoorZag
import Derived.Test.YtphijnkiiokieaaGreatDoorZab
import Derived.Test.YtphijnkiiokieaaGreatDoorZaa
import Derived.Test.YtphijnkiiokieaaGreatDoorProg
import Derived.Shelf.Strings.Builder1
import Derived.Lib.Hide
import Derived.KernelRfl
import Derived.Lib.ValidLaws
/- card: slices of fields; how many of a kind. -/
namespace Go.Proofs.YtphijnkiiokieaaGreatDoor
open Go.RowKit
open Go.Lib
set_option linter.unusedVariables false
set_option linter.unusedSimpArgs false
set_option maxRecDepth 100000
abbrev F3 := Int × Int × ByteArray
def fV (f : F3) : Value := fieldV f.1 f.2.1 f.2.2
/-- A slice of fields. -/
def Fv (w : World) (A : Option Addr) (cap b off : Nat) (L : List F3) : Prop := L.length ≤ cap ∧ ∀ j f, L[j]? = some f → A = some ⟨b, off, none⟩ ∧ b < w.heap.size ∧ w.cell? ⟨b, off + j * 3, none⟩ = some (.int .i64 f.1) ∧ w.cell? ⟨b, off + j * 3 + 1, none⟩ = some (.int .i64 f.2.1) ∧ w.cell? ⟨b, off + j * 3 + 2, none⟩ = some (.string f.2.2)
theorem Fv.below {w w' : World} {A : Option Addr} {cap b off : Nat} {L : List F3} (h : Fv w A cap b off L) (hb : Below w.heap.size w w') : Fv w' A cap b off L :=
  ⟨h.1, fun j f hj => by
    obtain ⟨h1, h2, h3, h4, h5⟩ := h.2 j f hj
    exact ⟨h1, Nat.lt_of_lt_of_le h2 hb.size, by rw [hb.cell (p := ⟨b, _, none⟩) h2]; exact h3, by rw [hb.cell (p := ⟨b, _, none⟩) h2]; exact h4, by rw [hb.cell (p := ⟨b, _, none⟩) h2]; exact h5⟩⟩
def cntF (k : Int) (L : List F3) (i : Nat) : Nat := ((L.take i).filter fun f => f.1 == k).length
theorem cntF_le (k : Int) (L : List F3) (i : Nat) : cntF k L i ≤ L.length := by
  unfold cntF
  exact Nat.le_trans (List.length_filter_le _ _) (by rw [List.length_take]; omega)
theorem cntF_step {k : Int} {L : List F3} {i : Nat} {f : F3} (h : L[i]? = some f) : cntF k L (i + 1) = cntF k L i + if f.1 = k then 1 else 0 := by
  unfold cntF
  rw [List.take_add_one, h, List.filter_append, List.length_append]
  congr 1
  simp only [Option.toList, List.filter_cons, List.filter_nil]
  by_cases e : f.1 = k
  · rw [if_pos e, if_pos (by simpa using e)]; rfl
  · rw [if_neg e, if_neg (by simpa using e)]; rfl
set_option maxHeartbeats 4000000 in
theorem count_any {w : World} {A : Option Addr} {cap b off : Nat} {L : List F3} (h : Fv w A cap b off L) (hn : L.length ≤ 100000) (k : Int) (m : Nat) (hm : cntF k L L.length = m) : Calls Tryz.prog 115 #[.slice A L.length cap, .int .i64 k] w fun e w' => e = .returned (.int .i64 (m : Int)) ∧ Below w.heap.size w w' := by
  have H := Lib.hid h
  have HM := Lib.hid hm
  obtain ⟨n, hnn⟩ : ∃ n, L.length = n := ⟨_, rfl⟩
  have HN := Lib.hid hnn
  rw [hnn] at hn ⊢
  have hnI : (n : Int) ≤ 100000 := by omega
  clear h hm hnn
  go_enter Tryz.func115, Tryz.ntmps115
  go_wp2_with fail
  go_loopw [5, 10] (fun t i wr => ∃ q : Nat, q ≤ n ∧ t = .int .i64 (cntF k L q : Int) ∧ i = .int .i64 (q : Int) ∧ Below w.heap.size w wr) (fun _ i _ => n - (intOf i).toNat)
  case atStart => exact ⟨0, Nat.zero_le _, rfl, rfl, Below.refl _ _⟩
  case round =>
    obtain ⟨q, hq, rfl, rfl, hb⟩ := hrel
    have hcl := cntF_le k L q
    obtain ⟨kc, hkc⟩ : ∃ kc, cntF k L q = kc := ⟨_, rfl⟩
    rw [hkc] at hcl ⊢
    have hkl : kc ≤ 100000 := by have := HN.out; omega
    have HKC := Lib.hid hkc
    have HB := Lib.hid hb
    clear hkc hcl hb
    by_cases hql : q < n
    · obtain ⟨f, hf⟩ : ∃ f, L[q]? = some f := ⟨L[q]'(by rw [HN.out]; exact hql), List.getElem?_eq_getElem _⟩
      obtain ⟨rfl, hbl, c0, c1, c2⟩ := (H.out.below HB.out).2 q f hf
      have HST := Lib.hid (cntF_step (k := k) hf)
      obtain ⟨f1, f2, f3⟩ := f
      simp only at c0 c1 c2 HST
      have hqI : (q : Int) < (n : Int) := by omega
      obtain ⟨n9, hn9⟩ : ∃ n, wr.heap.size = n := ⟨_, rfl⟩
      obtain ⟨W1, hW1⟩ : ∃ W1, wr.alloc (.cells #[.int .i64 0, .int .i64 0, .string { data := #[] }] 92) = W1 := ⟨_, rfl⟩
      have HC1 := Lib.hid (show Below wr.heap.size wr W1 from hW1 ▸ (Below.refl _ wr).alloc (Nat.le_refl _) _)
      have HY1 := Lib.hid (show Blk W1 n9 92 #[.int .i64 0, .int .i64 0, .string .empty] from hn9 ▸ hW1 ▸ Blk.new wr 92 _)
      have y0 := HY1.out.cell 0
      have y1 := HY1.out.cell 1
      have y2 := HY1.out.cell 2
      have g0 := HY1.out.frozen 0
      have g1 := HY1.out.frozen 1
      have g2 := HY1.out.frozen 2
      obtain ⟨w2, hw2⟩ : ∃ w2, ((W1.setCell ⟨n9, 0, none⟩ (.int .i64 f1)).setCell ⟨n9, 1, none⟩ (.int .i64 f2)).setCell ⟨n9, 2, none⟩ (.string f3) = w2 := ⟨_, rfl⟩
      have HB2 := Lib.hid (show Blk w2 n9 92 #[.int .i64 f1, .int .i64 f2, .string f3] from hw2 ▸ (((HY1.out.set_ 0 _).set_ 1 _).set_ 2 _))
      have HC2 := Lib.hid (show Below n9 wr w2 from hw2 ▸ (((((HC1.out.mono (Nat.le_of_eq hn9.symm)).setCell (p := ⟨n9, 0, none⟩) (Nat.le_refl _) _).setCell (p := ⟨n9, 1, none⟩) (Nat.le_refl _) _).setCell (p := ⟨n9, 2, none⟩) (Nat.le_refl _) _)))
      have HW2 := Lib.hid (HB.out.trans (HC2.out.mono (by have := HB.out.size; omega)))
      have z0 : w2.cell? ⟨n9, 0, none⟩ = some (.int .i64 f1) := HB2.out.cell 0
      clear hf hbl
      by_cases he : f1 = k
      · have heb : (f1 == k) = true := by simpa using he
        have HST2 := Lib.hid (show cntF k L (q + 1) = kc + 1 from by rw [HST.out, if_pos he, HKC.out])
        clear he
        go_wp2_with fail
        try rw [hw2]
        clear hw2 y0 y1 y2 g0 g1 g2 hW1 c0 c1 c2
        go_wp2_with fail
        go_roundw
        case rel => exact ⟨q + 1, by omega, by rw [HST2.out]; go_num, by go_num, HW2.out⟩
        case measure => simp [intOf]; omega
      · have heb : (f1 == k) = false := by simpa using he
        have HST2 := Lib.hid (show cntF k L (q + 1) = kc from by rw [HST.out, if_neg he, HKC.out]; rfl)
        clear he
        go_wp2_with fail
        try rw [hw2]
        clear hw2 y0 y1 y2 g0 g1 g2 hW1 c0 c1 c2
        go_wp2_with fail
        go_roundw
        case rel => exact ⟨q + 1, by omega, by rw [HST2.out], by go_num, HW2.out⟩
        case measure => simp [intOf]; omega
    · obtain rfl : q = n := by omega
      obtain rfl : kc = m := by rw [← HKC.out, ← HM.out, HN.out]
      clear hql
      go_wp2
      go_ret
      exact ⟨rfl, HB.out⟩
end Go.Proofs.YtphijnkiiokieaaGreatDoor
/- The tables that ValidString reads. -/
namespace Go.Proofs.YtphijnkiiokieaaGreatDoor
open Go.RowKit
set_option linter.unusedVariables false
set_option maxRecDepth 20000
def Tabs (w : World) : Prop := Lib.Utf8Tabs 1 2 w
theorem below_iter {B : Nat} {a w : World} (h : Below B a w) (hB : B ≤ w.heap.size) (s : ByteArray) (p : Nat) : Below B a (w.iter s p) := h.alloc hB _
end Go.Proofs.YtphijnkiiokieaaGreatDoor
/- A builder that the call itself has made: what is written into it. -/
namespace Go.Proofs.YtphijnkiiokieaaGreatDoor
open Go.RowKit
set_option linter.unusedVariables false
set_option maxRecDepth 20000
theorem info_of {P : Program} {e : TypeId} {z : Value} {a b : Nat} (h : (P.info? e).map (fun i => (i.zero, i.size, i.bytes)) = some (some z, a, b)) : ∃ i, P.info? e = some i ∧ i.zero = some z ∧ i.size = a ∧ i.bytes = b := by
  cases hi : P.info? e with
  | none => rw [hi] at h; cases h
  | some i => rw [hi] at h; simp at h; exact ⟨i, rfl, h⟩
theorem info5 : (Tryz.prog.info? 5).map (fun i => (i.zero, i.size, i.bytes)) = some (some (.int .u8 0), 1, 1) := by kernel_rfl
theorem infoB : (Tryz.prog.info? 122).map (fun i => i.size) = some 2 := by kernel_rfl
theorem liesB : liesAt Tryz.prog Tryz.prog.depth 122 (2 / Tryz.prog.cellsOf 122) 0 122 1 = true := by kernel_rfl
theorem copy_used (b : Nat) (w : World) (h0 : w.cell? ⟨b, 0, none⟩ = some (.pointer (some ⟨b, 0, none⟩))) : Calls Tryz.prog 132 #[.pointer (some ⟨b, 0, none⟩)] w fun e w' => e = .returned (.tuple #[]) ∧ w' = w := by
  obtain ⟨j, hj, hjs⟩ := Option.map_eq_some_iff.1 infoB
  go_enter Tryz.func132, Tryz.ntmps132
  go_wp2
  rw [Lib.run_neq_ptr_same w _ Tryz.underlying120 hj]
  go_wp2
  go_end0
  exact ⟨rfl, rfl⟩
theorem copy_fresh (b : Nat) (w : World) (h0 : w.cell? ⟨b, 0, none⟩ = some (.pointer none)) (hsh : w.shape? b = some (122, 2)) (hfz : w.frozen? ⟨b, 0, none⟩ = false) : Calls Tryz.prog 132 #[.pointer (some ⟨b, 0, none⟩)] w fun e w' => e = .returned (.tuple #[]) ∧ w' = w.setCell ⟨b, 0, none⟩ (.pointer (some ⟨b, 0, none⟩)) := by
  obtain ⟨j, hj, hjs⟩ := Option.map_eq_some_iff.1 infoB
  go_enter Tryz.func132, Tryz.ntmps132
  go_wp2
  rw [Lib.run_to_unsafe w ⟨b, 0, none⟩ Tryz.underlying120 Tryz.underlying152 hj (by rw [hjs]; decide) hsh (Nat.zero_lt_succ 1)]
  simp only [Result.andThen]
  rw [Oper.upon_value]
  go_wp2
  rw [run_callFunc_extern Tryz.func155 (by kernel_rfl) (by kernel_rfl) (by kernel_rfl) (e := Extern.AbiNoEscape.same) (by kernel_rfl)]
  rw [Lib.run_noEscape]
  simp only [Result.andThen]
  rw [Oper.upon_value]
  go_wp2
  rw [Lib.run_from_unsafe w ⟨b, 0, none⟩ Tryz.underlying152 Tryz.underlying120 hj hsh liesB]
  simp only [Result.andThen]
  rw [Oper.upon_value]
  go_wp2
  go_end0
  exact ⟨rfl, rfl⟩
theorem copy_any (B b : Nat) (bs : List Value) (w : World) (h : Lib.IsBuilder 122 5 B b bs w) :
    Calls Tryz.prog 132 #[.pointer (some ⟨b, 0, none⟩)] w fun e w' => e = .returned (.tuple #[]) ∧ (Lib.BuilderAt 122 5 B b (.pointer (some ⟨b, 0, none⟩)) bs w' ∧ Below B w w') := by
  rcases h with h | h
  · refine (copy_fresh b w h.cell0 h.shape h.frozen0).mono ?_
    rintro e w' ⟨rfl, rfl⟩
    exact ⟨rfl, h.used _, (Below.refl B w).setCell (p := ⟨b, 0, none⟩) h.1 _⟩
  · refine (copy_used b w h.cell0).mono ?_
    rintro e w' ⟨rfl, rfl⟩
    exact ⟨rfl, h, Below.refl B _⟩
set_option maxHeartbeats 2000000 in
theorem put_any (B b : Nat) (bs : List Value) (c : Int) (w : World) (h : Lib.IsBuilder 122 5 B b bs w) (hlen : bs.length + 1 ≤ 140737488355328) (hBw : B ≤ w.heap.size) :
    Calls Tryz.prog 118 #[.pointer (some ⟨b, 0, none⟩), .int .u8 c] w fun e w' => e = .returned .nilIface ∧ (Lib.IsBuilder 122 5 B b (bs ++ [.int .u8 c]) w' ∧ Below B w w') := by
  obtain ⟨i0, hi, hz0, hz1, hz2⟩ := info_of info5
  go_enter Tryz.func118, Tryz.ntmps118
  go_wp2_with (go_at_call 132; refine (copy_any B b bs _ h).mono ?_)
  rintro e w1 ⟨rfl, h1, hb1⟩
  obtain ⟨hB, v, hbk, hown, hne⟩ := h1
  have c0 : w1.cell? ⟨b, 0, none⟩ = some (.pointer (some ⟨b, 0, none⟩)) := by rw [Lib.cell_of_heap hbk]; rfl
  have c1 : w1.cell? ⟨b, 1, none⟩ = some v := by rw [Lib.cell_of_heap hbk]; rfl
  go_wp2_with (at_builtin; refine wpList_append_own _ rfl _ _ 27 rfl B 5 i0 (.int .u8 0) 1 1 Tryz.underlying27 hi hz0 hz1 hz2 rfl (by decide) _ _ _ rfl (hown.alloc _) ⟨w1.heap.size, 0, none⟩ 1 1 [.int .u8 c] rfl rfl ?c1 ?c2 ?c3 ?c4 ?c5 ?_)
  case c1 =>
    intro j u hj
    match j, hj with
    | 0, hj => simp at hj; subst hj; simp [Addr.add]
  case c2 => intro u hu; simp at hu; subst hu; rfl
  case c3 => unfold maxLen; omega
  case c4 => omega
  case c5 => have := hb1.size; simp; omega
  intro v' w2 hown' hgrow _
  have hlt : b < w1.heap.size := by
    rcases Nat.lt_or_ge b w1.heap.size with h' | h'
    · exact h'
    · simp [Array.getElem?_eq_none h'] at hbk
  have hb2 : w2.heap[b]? = some (.cells #[.pointer (some ⟨b, 0, none⟩), v] 122 (0, 0)) := by
    rw [hgrow.block b (by simp; omega) (fun e => hne e.symm), Lib.alloc_old w1 _ b hlt]
    exact hbk
  have d0 : w2.cell? ⟨b, 0, none⟩ = some (.pointer (some ⟨b, 0, none⟩)) := by rw [Lib.cell_of_heap hb2]; rfl
  have d1 : w2.cell? ⟨b, 1, none⟩ = some v := by rw [Lib.cell_of_heap hb2]; rfl
  have f1 : w2.frozen? ⟨b, 1, none⟩ = false := Lib.frozen_of_heap hb2 1
  obtain ⟨g, cap, rfl⟩ : ∃ g cap, v' = .slice (some ⟨g, 0, none⟩) (bs.length + 1) cap := by
    rcases hown'.2 with ⟨_, h0⟩ | ⟨g, cap, cur, hv, _⟩
    · omega
    · exact ⟨g, cap, hv⟩
  go_wp2
  go_ret
  refine ⟨rfl, .inr ?_, ?_⟩
  · exact Lib.BuilderAt.put (T := 122) (e := 5) hB hb2 (bs' := bs ++ [.int .u8 c]) (by simpa using hown') (by decide)
  · exact ((hb1.alloc (by have := hb1.size; omega) _).grown hgrow (by have := hb1.size; simp; omega) (fun k hk => (hown.lt k hk).1)).setCell (p := ⟨b, 1, none⟩) hB _
end Go.Proofs.YtphijnkiiokieaaGreatDoor
/- A text squeezed. -/
namespace Go.Proofs.YtphijnkiiokieaaGreatDoor
open Go.RowKit
set_option linter.unusedVariables false
set_option maxRecDepth 20000
def sqStep (x : Bool × List UInt8) (c : UInt8) : Bool × List UInt8 :=
  if ((c.toNat : Int) == 32) = true then (true, x.2) else (false, (if (x.1 && decide (0 < (x.2.length : Int))) = true then x.2 ++ [32] else x.2) ++ [c])
def sqAt (l : List UInt8) (k : Nat) : Bool × List UInt8 := (l.take k).foldl sqStep (false, [])
theorem sqAt_succ (l : List UInt8) (k : Nat) (hk : k < l.length) : sqAt l (k + 1) = sqStep (sqAt l k) l[k] := by
  unfold sqAt
  rw [List.take_succ_eq_append_getElem hk, List.foldl_append]; rfl
theorem sqAt_len (l : List UInt8) : ∀ k, k ≤ l.length → (sqAt l k).2.length ≤ 2 * k
  | 0, _ => by simp [sqAt]
  | k + 1, h => by
    have ih := sqAt_len l k (by omega)
    rw [sqAt_succ l k (by omega)]
    unfold sqStep
    split
    · simp only; omega
    · simp only
      split <;> simp <;> omega
theorem bc_app (l : List UInt8) (c : UInt8) : Lib.byteCells (l ++ [c]) = Lib.byteCells l ++ [.int .u8 (c.toNat : Int)] := by simp [Lib.byteCells]
theorem bc_len (l : List UInt8) : (Lib.byteCells l).length = l.length := by simp [Lib.byteCells]
set_option maxHeartbeats 1000000 in
theorem squeeze_any (s : ByteArray) (hs : s.size ≤ 1000000) (w : World) : Calls Tryz.prog 167 #[.string s] w fun e w' => e = .returned (.string ⟨(sqAt s.data.toList s.size).2.toArray⟩) ∧ Below w.heap.size w w' := by
  obtain ⟨B, hB⟩ : ∃ B, w.heap.size = B := ⟨_, rfl⟩
  obtain ⟨r, hr⟩ : ∃ r : ByteArray, (⟨(sqAt s.data.toList s.size).2.toArray⟩ : ByteArray) = r := ⟨_, rfl⟩
  have HP := Lib.hid hr.symm
  rw [hr]
  clear hr
  have HF := Lib.hid (Lib.fresh_isBuilder 122 5 w)
  have HB0 := Lib.hid ((Below.refl w.heap.size w).alloc (Nat.le_refl _) (.cells #[.pointer none, .slice none 0 0] 122))
  rw [hB] at HF HB0
  go_enter Tryz.func167, Tryz.ntmps167
  go_wp2
  obtain ⟨W1, hW1⟩ : ∃ W1, w.alloc (.cells #[.pointer none, .slice none 0 0] 122) = W1 := ⟨_, rfl⟩
  simp only [hW1] at HF HB0 ⊢
  clear hW1
  go_loopw [4, 8] (fun g i wr => ∃ k : Nat, k ≤ s.size ∧ i = .int .i64 (k : Int) ∧ g = .bool (sqAt s.data.toList k).1 ∧ Lib.IsBuilder 122 5 B B (Lib.byteCells (sqAt s.data.toList k).2) wr ∧ Below B w wr) (fun _ i _ => s.size - (intOf i).toNat)
  case atStart => exact ⟨0, Nat.zero_le _, rfl, rfl, HF.out, HB0.out⟩
  case round =>
    obtain ⟨k, hk, rfl, rfl, hi, hb⟩ := hrel
    have HI := Lib.hid hi
    have HBB := Lib.hid hb
    have HBs := Lib.hid (show B ≤ wr.heap.size by have := hb.size; omega)
    clear hi hb
    by_cases hlt : k < s.size
    · have hkl : k < s.data.toList.length := by simpa using hlt
      have HL := Lib.hid (sqAt_len s.data.toList k (by omega))
      obtain ⟨c, hc⟩ : ∃ c, s[k] = c := ⟨_, rfl⟩
      have hc8 : (c.toNat : Int) ≤ 255 := by have := c.toNat_lt; omega
      have HS := Lib.hid (show sqAt s.data.toList (k + 1) = sqStep (sqAt s.data.toList k) c from by rw [sqAt_succ _ _ hkl, ← hc]; rfl)
      obtain ⟨X, hX⟩ : ∃ X, sqAt s.data.toList k = X := ⟨_, rfl⟩
      rw [hX] at HS HL HI ⊢
      obtain ⟨g, o⟩ := X
      simp only at HL HI ⊢
      clear hX
      by_cases u1 : ((c.toNat : Int) == 32) = true
      · have HS2 := Lib.hid (show sqAt s.data.toList (k + 1) = (true, o) by rw [HS.out]; unfold sqStep; rw [if_pos u1])
        go_wp2
        exact ⟨⟨k + 1, by omega, by go_num, by rw [HS2.out], by rw [HS2.out]; exact HI.out, HBB.out⟩, by simp [intOf]; omega⟩
      · have u1' : ((c.toNat : Int) == 32) = false := by simpa using u1
        clear u1
        have last : ∀ (o2 : List UInt8) (w1 : World), o2.length ≤ 2 * k + 1 → B ≤ w1.heap.size → Lib.IsBuilder 122 5 B B (Lib.byteCells o2) w1 → Calls Tryz.prog 118 #[.pointer (some ⟨B, 0, none⟩), .int .u8 (c.toNat : Int)] w1 fun e w' => e = .returned .nilIface ∧ Lib.IsBuilder 122 5 B B (Lib.byteCells (o2 ++ [c])) w' ∧ Below B w1 w' := by
          intro o2 w1 h1 h2 h3
          refine (put_any B B _ (c.toNat : Int) w1 h3 (by rw [bc_len]; omega) h2).mono ?_
          rintro e w' ⟨rfl, h4, h5⟩
          exact ⟨rfl, by rw [bc_app]; exact h4, h5⟩
        have LAST := Lib.hid last
        clear last
        cases g with
        | false =>
          have HS2 := Lib.hid (show sqAt s.data.toList (k + 1) = (false, o ++ [c]) by rw [HS.out]; unfold sqStep; rw [if_neg (by rw [u1']; decide)]; rfl)
          go_wp2_with (go_at_call 118; refine (LAST.out o _ (by have := HL.out; omega) HBs.out HI.out).mono ?_)
          rintro e w2 ⟨rfl, h1, h2⟩
          have HI2 := Lib.hid h1
          have HB2 := Lib.hid (HBB.out.trans h2)
          clear h1 h2
          go_wp2
          exact ⟨⟨k + 1, by omega, by go_num, by rw [HS2.out], by rw [HS2.out]; exact HI2.out, HB2.out⟩, by simp [intOf]; omega⟩
        | true =>
          have hLen := Tryz.Builder_Len B B _ _ HI.out
          rw [bc_len] at hLen
          have HLn := Lib.hid hLen
          clear hLen
          by_cases u3 : 0 < (o.length : Int)
          · have HS2 := Lib.hid (show sqAt s.data.toList (k + 1) = (false, (o ++ [32]) ++ [c]) by rw [HS.out]; unfold sqStep; rw [if_neg (by rw [u1']; decide)]; simp only [Bool.true_and]; rw [if_pos (by simpa using u3)])
            go_wp2_with (go_at_call 184; refine HLn.out.mono ?_)
            rintro e w1 ⟨rfl, rfl⟩
            go_wp2_with (go_at_call 118; refine (put_any B B _ 32 _ HI.out (by rw [bc_len]; have := HL.out; omega) HBs.out).mono ?_)
            rintro e w2 ⟨rfl, h1, h2⟩
            have HI2 := Lib.hid (show Lib.IsBuilder 122 5 B B (Lib.byteCells (o ++ [32])) w2 by rw [bc_app]; exact h1)
            have HB2 := Lib.hid (HBB.out.trans h2)
            have HBt := Lib.hid (Nat.le_trans HBs.out h2.size)
            clear h1 h2
            go_wp2_with (go_at_call 118; refine (LAST.out (o ++ [32]) _ (by have := HL.out; simp; omega) HBt.out HI2.out).mono ?_)
            rintro e w3 ⟨rfl, h1, h2⟩
            have HI3 := Lib.hid h1
            have HB3 := Lib.hid (HB2.out.trans h2)
            clear h1 h2
            go_wp2
            exact ⟨⟨k + 1, by omega, by go_num, by rw [HS2.out], by rw [HS2.out]; exact HI3.out, HB3.out⟩, by simp [intOf]; omega⟩
          · obtain rfl : o = [] := by
              cases o with
              | nil => rfl
              | cons x y => exact absurd (by simp) u3
            have HS2 := Lib.hid (show sqAt s.data.toList (k + 1) = (false, [] ++ [c]) by rw [HS.out]; unfold sqStep; rw [if_neg (by rw [u1']; decide)]; rfl)
            clear u3
            go_wp2_with (go_at_call 184; refine HLn.out.mono ?_)
            rintro e w1 ⟨rfl, rfl⟩
            go_wp2_with (go_at_call 118; refine (LAST.out [] _ (by have := HL.out; omega) HBs.out HI.out).mono ?_)
            rintro e w2 ⟨rfl, h1, h2⟩
            have HI2 := Lib.hid h1
            have HB2 := Lib.hid (HBB.out.trans h2)
            clear h1 h2
            go_wp2
            exact ⟨⟨k + 1, by omega, by go_num, by rw [HS2.out], by rw [HS2.out]; exact HI2.out, HB2.out⟩, by simp [intOf]; omega⟩
    · have hks : k = s.size := by omega
      subst hks
      obtain ⟨o, ho⟩ : ∃ o, (sqAt s.data.toList s.size).2 = o := ⟨_, rfl⟩
      obtain ⟨gg, hgg⟩ : ∃ gg, (sqAt s.data.toList s.size).1 = gg := ⟨_, rfl⟩
      rw [ho] at HI HP
      rw [hgg]
      clear ho hgg
      go_wp2_with (go_at_call 119; refine (Tryz.Builder_String_any B B _ _ HI.out HBs.out).mono ?_)
      rintro e w2 ⟨rfl, h2⟩
      have HB2 := Lib.hid (HBB.out.trans h2)
      clear h2
      go_wp2
      go_ret
      exact ⟨by rw [HP.out]; rfl, (by rw [hB]; exact HB2.out)⟩
end Go.Proofs.YtphijnkiiokieaaGreatDoor
/- A text without a control. -/
namespace Go.Proofs.YtphijnkiiokieaaGreatDoor
open Go.RowKit
set_option linter.unusedVariables false
set_option maxRecDepth 20000
def ctl (c : UInt8) : Bool := decide ((c.toNat : Int) < 32) || (c.toNat : Int) == 127
set_option maxHeartbeats 4000000 in
theorem controls_any (s : ByteArray) (hs : s.size ≤ 1000000) (w : World) : Calls Tryz.prog 166 #[.string s] w fun e w' => e = .returned (.bool (s.data.toList.any ctl)) ∧ w' = w := by
  obtain ⟨r, hr⟩ : ∃ r, s.data.toList.any ctl = r := ⟨_, rfl⟩
  have HR := Lib.hid hr
  rw [hr]
  clear hr
  go_enter Tryz.func166, Tryz.ntmps166
  go_wp2
  go_loopw [6] (fun i wr => ∃ k : Nat, k ≤ s.size ∧ i = .int .i64 (k : Int) ∧ wr = w ∧ (s.data.toList.take k).any ctl = false) (fun i _ => s.size - (intOf i).toNat)
  case atStart => exact ⟨0, Nat.zero_le _, rfl, rfl, by simp⟩
  case round =>
    obtain ⟨k, hk, rfl, rfl, hno⟩ := hrel
    have HN := Lib.hid hno
    clear hno
    by_cases hlt : k < s.size
    · have hkl : k < s.data.toList.length := by simpa using hlt
      obtain ⟨c, hc⟩ : ∃ c, s[k] = c := ⟨_, rfl⟩
      have hc8 : (c.toNat : Int) ≤ 255 := by have := c.toNat_lt; omega
      have HC := Lib.hid (show s.data.toList[k] = c from by rw [← hc]; rfl)
      have HM := Lib.hid (show c ∈ s.data.toList from by rw [← HC.out]; exact List.getElem_mem _)
      have HT := Lib.hid (show (s.data.toList.take (k + 1)).any ctl = ((s.data.toList.take k).any ctl || ctl c) from by
        rw [List.take_succ_eq_append_getElem hkl, List.any_append, HC.out]; simp)
      by_cases u1 : (c.toNat : Int) < 32
      · have e := Lib.hid (show r = true by
          rw [← HR.out, List.any_eq_true]; exact ⟨c, HM.out, by unfold ctl; simp only [u1, decide_true, Bool.true_or]⟩)
        go_wp2
        go_ret
        exact ⟨by rw [e.out]; rfl, rfl⟩
      · have u1' : decide ((c.toNat : Int) < 32) = false := by simpa using u1
        by_cases u2 : (c.toNat : Int) = 127
        · have u2' : ((c.toNat : Int) == 127) = true := by rw [u2]; rfl
          have e := Lib.hid (show r = true by
            rw [← HR.out, List.any_eq_true]; exact ⟨c, HM.out, by unfold ctl; simp only [u2', Bool.or_true]⟩)
          clear u2
          go_wp2
          go_ret
          exact ⟨by rw [e.out]; rfl, rfl⟩
        · have u2' : ((c.toNat : Int) == 127) = false := by simpa using u2
          have HN2 := Lib.hid (show (s.data.toList.take (k + 1)).any ctl = false by
            rw [HT.out, HN.out]; unfold ctl; rw [u1', u2']; rfl)
          clear u2
          go_wp2
          exact ⟨⟨k + 1, by omega, by go_num, trivial, HN2.out⟩, by simp [intOf]; omega⟩
    · have hks : k = s.size := by omega
      subst hks
      have e := Lib.hid (show r = false by
        rw [← HR.out, ← HN.out, List.take_of_length_le (by simp)])
      go_wp2
      go_ret
      exact ⟨by rw [e.out]; rfl, rfl⟩
end Go.Proofs.YtphijnkiiokieaaGreatDoor
/- A text made clean. -/
namespace Go.Proofs.YtphijnkiiokieaaGreatDoor
open Go.RowKit
set_option linter.unusedVariables false
set_option maxRecDepth 20000
def squeezeS (s : ByteArray) : ByteArray := ⟨(sqAt s.data.toList s.size).2.toArray⟩
def cleanOf (v c : Bool) (t : ByteArray) : ByteArray × Int :=
  if (!v || c) = true then (⟨#[]⟩, 1) else if t = ⟨#[]⟩ then (⟨#[]⟩, 14) else if 64 < (t.size : Int) then (⟨#[]⟩, 2) else (t, 0)
def cleanS (s : ByteArray) : ByteArray × Int := cleanOf (Lib.validD s.data.toList) (s.data.toList.any ctl) (squeezeS s)
set_option maxHeartbeats 2000000 in
theorem clean_any (s : ByteArray) (hs : s.size ≤ 1000000) (w : World) (hT : Tabs w) : Calls Tryz.prog 143 #[.string s] w fun e w' => e = .returned (.tuple #[.string (cleanS s).1, .int .i64 (cleanS s).2]) ∧ Below w.heap.size w w' := by
  have hV := Tryz.utf8_ValidString s w (by omega) hT
  have hC := controls_any s hs
  have hS : ∀ w, Calls Tryz.prog 167 #[.string s] w fun e w' => e = .returned (.string (squeezeS s)) ∧ Below w.heap.size w w' := fun w => squeeze_any s hs w
  unfold cleanS
  obtain ⟨v, hv⟩ : ∃ v, Lib.validD s.data.toList = v := ⟨_, rfl⟩
  obtain ⟨c, hc⟩ : ∃ c, s.data.toList.any ctl = c := ⟨_, rfl⟩
  obtain ⟨t, ht⟩ : ∃ t, squeezeS s = t := ⟨_, rfl⟩
  simp only [hv, hc, ht] at hV hC hS ⊢
  have HV := Lib.hid hV
  have HC := Lib.hid hC
  have HS := Lib.hid hS
  clear hV hC hS hv hc ht
  obtain ⟨r, hr⟩ : ∃ r, cleanOf v c t = r := ⟨_, rfl⟩
  rw [hr]
  have HR := Lib.hid (show r = if (!v || c) = true then (⟨#[]⟩, 1) else if t = ⟨#[]⟩ then (⟨#[]⟩, 14) else if 64 < (t.size : Int) then (⟨#[]⟩, 2) else (t, 0) by rw [← hr]; rfl)
  clear hr
  go_enter Tryz.func143, Tryz.ntmps143
  go_wp2_with (go_at_call 165; refine HV.out.mono ?_)
  rintro e w1 ⟨rfl, h1⟩
  have HB1 := Lib.hid h1
  clear h1 HV
  cases v with
  | false =>
    have e := Lib.hid (show r = (⟨#[]⟩, 1) by rw [HR.out]; rfl)
    go_wp2
    go_ret2
    exact ⟨by rw [e.out]; rfl, HB1.out⟩
  | true =>
    go_wp2_with (go_at_call 166; refine (HC.out _).mono ?_)
    rintro e w2 ⟨rfl, rfl⟩
    cases c with
    | true =>
      have e := Lib.hid (show r = (⟨#[]⟩, 1) by rw [HR.out]; rfl)
      go_wp2
      go_ret2
      exact ⟨by rw [e.out]; rfl, HB1.out⟩
    | false =>
      go_wp2_with (go_at_call 167; refine (HS.out _).mono ?_)
      rintro e w3 ⟨rfl, h3⟩
      have HB3 := Lib.hid (HB1.out.trans (h3.mono HB1.out.size))
      clear h3
      by_cases t0 : t = ⟨#[]⟩
      · subst t0
        have e := Lib.hid (show r = (⟨#[]⟩, 14) by rw [HR.out]; rfl)
        go_wp2
        go_ret2
        exact ⟨by rw [e.out]; rfl, HB3.out⟩
      · have t1 : t.data.toList.isEmpty = false := by
          cases h : t.data.toList with
          | nil => exact absurd (bs_ext (by rw [h])) t0
          | cons x y => rfl
        have t2 : t.toList.isEmpty = false := by rw [ByteArray.toList_eq]; exact t1
        by_cases t3 : 64 < (t.size : Int)
        · have e := Lib.hid (show r = (⟨#[]⟩, 2) by rw [HR.out, if_neg (by decide), if_neg t0, if_pos t3])
          clear HR t0
          go_wp2
          go_ret2
          exact ⟨by rw [e.out]; rfl, HB3.out⟩
        · have e := Lib.hid (show r = (t, 0) by rw [HR.out, if_neg (by decide), if_neg t0, if_neg t3])
          clear HR t0
          go_wp2
          go_ret2
          exact ⟨by rw [e.out]; rfl, HB3.out⟩
end Go.Proofs.YtphijnkiiokieaaGreatDoor
/- A text squeezed: what it is. -/
namespace Go.Proofs.YtphijnkiiokieaaGreatDoor
open Go.RowKit
set_option linter.unusedVariables false
def isB (c : UInt8) : Bool := (c.toNat : Int) == 32
theorem isB_iff (c : UInt8) : isB c = true ↔ c = 32 := by
  unfold isB
  constructor
  · intro h
    have h : (c.toNat : Int) = 32 := by simpa using h
    exact UInt8.toNat_inj.1 (by show c.toNat = 32; omega)
  · rintro rfl; rfl
def run (x : Bool × List UInt8) (l : List UInt8) : Bool × List UInt8 := l.foldl sqStep x
def sq (l : List UInt8) : List UInt8 := (run (false, []) l).2
theorem squeezeS_sq (s : ByteArray) : squeezeS s = ⟨(sq s.data.toList).toArray⟩ := by
  unfold squeezeS sqAt sq run
  rw [List.take_of_length_le (by simp)]
theorem run_app (x : Bool × List UInt8) (l m : List UInt8) : run x (l ++ m) = run (run x l) m := by unfold run; rw [List.foldl_append]
theorem run_cons (x : Bool × List UInt8) (c : UInt8) (m : List UInt8) : run x (c :: m) = run (sqStep x c) m := rfl
theorem step_b (x : Bool × List UInt8) : sqStep x 32 = (true, x.2) := by unfold sqStep; rw [if_pos (by decide)]
theorem step_n (x : Bool × List UInt8) (c : UInt8) (h : c ≠ 32) : sqStep x c = (false, (if x.1 = true ∧ x.2 ≠ [] then x.2 ++ [32] else x.2) ++ [c]) := by
  unfold sqStep
  rw [if_neg (show ¬ ((c.toNat : Int) == 32) = true from fun e => h ((isB_iff c).1 e))]
  congr 2
  by_cases e : x.2 = []
  · rw [e]; simp
  · have : 0 < x.2.length := List.length_pos_iff.2 e
    cases x.1 <;> simp [e, this]
/-- What is squeezed squeezes to itself. -/
theorem run_self : ∀ (l : List UInt8) (g : Bool) (o : List UInt8), run (false, []) o = (false, o) → run (false, []) (run (g, o) l).2 = (false, (run (g, o) l).2)
  | [], _, _, h => h
  | c :: l, g, o, h => by
    rw [run_cons]
    by_cases hc : c = 32
    · subst hc; rw [step_b]; exact run_self l _ _ h
    · rw [step_n _ _ hc]
      refine run_self l _ _ ?_
      simp only
      by_cases hg : g = true ∧ o ≠ []
      · rw [if_pos hg, run_app, run_app, h]
        show sqStep (sqStep (false, o) 32) c = _
        rw [step_b, step_n _ _ hc]
        simp only
        rw [if_pos ⟨trivial, hg.2⟩]
      · rw [if_neg hg, run_app, h]
        show sqStep (false, o) c = _
        rw [step_n _ _ hc]
        rw [if_neg (by simp)]
theorem sq_sq (l : List UInt8) : sq (sq l) = sq l := by
  have := run_self l false [] rfl
  unfold sq
  rw [this]
/-- Blanks ahead say nothing. -/
theorem run_g0 : ∀ (l : List UInt8) (g : Bool), (run (g, []) l).2 = sq l
  | [], _ => rfl
  | c :: l, g => by
    unfold sq
    rw [run_cons, run_cons]
    by_cases hc : c = 32
    · subst hc; rw [step_b, step_b]
    · rw [step_n _ _ hc, step_n _ _ hc]; simp
theorem sq_blanks (l : List UInt8) : sq (32 :: 32 :: (l ++ [32])) = sq l := by
  show (run (false, []) (32 :: 32 :: (l ++ [32]))).2 = sq l
  rw [run_cons, run_cons, run_app, step_b, step_b]
  show (sqStep _ 32).2 = _
  rw [step_b]
  exact run_g0 l true
/-- Two texts with a blank between. -/
theorem run_on : ∀ (l : List UInt8) (g : Bool) (o p : List UInt8), p ≠ [] → (run (g, o ++ 32 :: p) l).2 = o ++ 32 :: (run (g, p) l).2
  | [], _, _, _, _ => rfl
  | c :: l, g, o, p, h => by
    rw [run_cons, run_cons]
    by_cases hc : c = 32
    · subst hc; rw [step_b, step_b]; exact run_on l _ o p h
    · rw [step_n _ _ hc, step_n _ _ hc]
      simp only
      by_cases hg : g = true
      · rw [if_pos ⟨hg, by simp⟩, if_pos ⟨hg, h⟩]
        have := run_on l false o (p ++ [32] ++ [c]) (by simp)
        simpa using this
      · rw [if_neg (fun e => hg e.1), if_neg (fun e => hg e.1)]
        have := run_on l false o (p ++ [c]) (by simp)
        simpa using this
theorem run_join : ∀ (l o : List UInt8), o ≠ [] → sq l ≠ [] → (run (true, o) l).2 = o ++ 32 :: sq l
  | [], _, _, h => absurd rfl h
  | c :: l, o, ho, h => by
    unfold sq at h ⊢
    rw [run_cons] at h ⊢
    rw [run_cons]
    by_cases hc : c = 32
    · subst hc
      rw [step_b] at h ⊢
      rw [step_b]
      have e : (run (true, []) l).2 = sq l := run_g0 l true
      have h' : (run (true, []) l).2 ≠ [] := h
      show (run (true, o) l).2 = o ++ 32 :: (run (true, []) l).2
      rw [e] at h' ⊢
      exact run_join l o ho h'
    · rw [step_n _ _ hc, step_n _ _ hc]
      simp only
      rw [if_pos ⟨trivial, ho⟩, if_neg (fun e => e.2 rfl)]
      have := run_on l false o [c] (by simp)
      simpa using this
theorem sq_join (a b : List UInt8) (ha : sq a ≠ []) (hb : sq b ≠ []) : sq (a ++ 32 :: b) = sq a ++ 32 :: sq b := by
  show (run (false, []) (a ++ 32 :: b)).2 = _
  rw [run_app, run_cons, step_b]
  exact run_join b _ ha hb
/-- Neat: no blank at the ends, none in a row. -/
structure Neat (o : List UInt8) : Prop where
  hd : o[0]? ≠ some 32
  tl : o[o.length - 1]? ≠ some 32
  dbl : ∀ i : Nat, o[i]? = some 32 → o[i + 1]? ≠ some 32
theorem Neat.nil : Neat [] := ⟨by simp, by simp, by simp⟩
theorem Neat.put {o : List UInt8} (h : Neat o) {c : UInt8} (hc : c ≠ 32) : Neat (o ++ [c]) := by
  refine ⟨?_, by simp [hc], ?_⟩
  · cases o with
    | nil => simpa using hc
    | cons x y => have := h.hd; simpa using this
  · intro i hi
    by_cases e : i + 1 < o.length
    · rw [List.getElem?_append_left (by omega)] at hi
      rw [List.getElem?_append_left e]; exact h.dbl i hi
    · by_cases e2 : i + 1 = o.length
      · rw [e2, List.getElem?_append_right (Nat.le_refl _)]; simpa using hc
      · rw [List.getElem?_eq_none (by simp; omega)]; simp
theorem Neat.put2 {o : List UInt8} (h : Neat o) {c : UInt8} (hc : c ≠ 32) (h0 : o ≠ []) : Neat (o ++ [32] ++ [c]) := by
  have hl : 0 < o.length := List.length_pos_iff.2 h0
  refine ⟨?_, by simp [hc], ?_⟩
  · have := h.hd
    rw [List.append_assoc, List.getElem?_append_left hl]; exact this
  · intro i hi
    rw [List.append_assoc] at hi ⊢
    by_cases e : i + 1 < o.length
    · rw [List.getElem?_append_left (by omega)] at hi
      rw [List.getElem?_append_left e]; exact h.dbl i hi
    · by_cases e2 : i + 1 = o.length
      · rw [List.getElem?_append_left (by omega)] at hi
        have : i = o.length - 1 := by omega
        subst this
        exact absurd hi h.tl
      · by_cases e3 : i = o.length
        · subst e3
          rw [List.getElem?_append_right (by omega)]; simpa using hc
        · rw [List.getElem?_append_right (by omega), List.getElem?_eq_none (by simp; omega)]; simp
theorem run_neat : ∀ (l : List UInt8) (g : Bool) (o : List UInt8), Neat o → Neat (run (g, o) l).2
  | [], _, _, h => h
  | c :: l, g, o, h => by
    rw [run_cons]
    by_cases hc : c = 32
    · subst hc; rw [step_b]; exact run_neat l _ _ h
    · rw [step_n _ _ hc]
      refine run_neat l _ _ ?_
      simp only
      by_cases hg : g = true ∧ o ≠ []
      · rw [if_pos hg]; exact h.put2 hc hg.2
      · rw [if_neg hg]; exact h.put hc
theorem sq_neat (l : List UInt8) : Neat (sq l) := run_neat l false [] Neat.nil
theorem run_mem : ∀ (l : List UInt8) (g : Bool) (o : List UInt8) (c : UInt8), c ∈ (run (g, o) l).2 → c ∈ o ∨ c ∈ l ∨ c = 32
  | [], _, _, _, h => .inl h
  | d :: l, g, o, c, h => by
    rw [run_cons] at h
    by_cases hd : d = 32
    · subst hd; rw [step_b] at h
      rcases run_mem l _ _ c h with h | h | h
      · exact .inl h
      · exact .inr (.inl (List.mem_cons.2 (.inr h)))
      · exact .inr (.inr h)
    · rw [step_n _ _ hd] at h
      rcases run_mem l _ _ c h with h | h | h
      · simp only at h
        split at h
        · simp only [List.mem_append, List.mem_singleton] at h
          rcases h with (h | h) | h
          · exact .inl h
          · exact .inr (.inr h)
          · exact .inr (.inl (by rw [h]; exact List.mem_cons_self))
        · simp only [List.mem_append, List.mem_singleton] at h
          rcases h with h | h
          · exact .inl h
          · exact .inr (.inl (by rw [h]; exact List.mem_cons_self))
      · exact .inr (.inl (List.mem_cons.2 (.inr h)))
      · exact .inr (.inr h)
theorem sq_ctl (l : List UInt8) (h : l.any ctl = false) : (sq l).any ctl = false := by
  rw [List.any_eq_false] at h ⊢
  intro c hc
  rcases run_mem l false [] c hc with h1 | h1 | h1
  · simp at h1
  · exact h c h1
  · subst h1; decide
end Go.Proofs.YtphijnkiiokieaaGreatDoor
namespace Go.Proofs.YtphijnkiiokieaaGreatDoor
open Go.RowKit Go.Lib
set_option linter.unusedVariables false
set_option maxHeartbeats 2000000 in
theorem lead_run (l : List UInt8) (hne : l ≠ []) (h0 : 128 ≤ (l.getD 0 0).toNat) (hv : validD l = true) :
    ∃ k, 2 ≤ k ∧ k ≤ l.length ∧ validD (l.drop k) = true ∧ (∀ j, j < k → 128 ≤ (l.getD j 0).toNat) ∧ ∀ m : List UInt8, k ≤ m.length → (∀ j, j < k → m.getD j 0 = l.getD j 0) → validD m = validD (m.drop k) := by
  rw [validD_lead l hne h0] at hv
  have fin : ∀ sz lo hi, firstT (l.getD 0 0).toNat % 8 = sz → accLo (firstT (l.getD 0 0).toNat / 16) = lo → accHi (firstT (l.getD 0 0).toNat / 16) = hi → (sz = 2 ∨ sz = 3 ∨ sz = 4 → 128 ≤ lo) → (sz = 2 ∨ sz = 3 ∨ sz = 4 ∨ (sz ≠ 2 ∧ sz ≠ 3 ∧ sz ≠ 4)) →
      ∃ k, 2 ≤ k ∧ k ≤ l.length ∧ validD (l.drop k) = true ∧ (∀ j, j < k → 128 ≤ (l.getD j 0).toNat) ∧ ∀ m : List UInt8, k ≤ m.length → (∀ j, j < k → m.getD j 0 = l.getD j 0) → validD m = validD (m.drop k) := by
    intro sz lo hi e1 e2 e3 hlo hsz
    rw [e1, e2, e3] at hv
    have hm : ∀ (k : Nat) (m : List UInt8), 2 ≤ k → k ≤ m.length → (∀ j, j < k → m.getD j 0 = l.getD j 0) → checkN m.length (m.getD 1 0).toNat (m.getD 2 0).toNat (m.getD 3 0).toNat sz lo hi = some k → validD m = validD (m.drop k) := by
      intro k m h2 hk he hc
      have h00 := he 0 (by omega)
      rw [validD_lead m (by rintro rfl; simp at hk; omega) (by rw [h00]; exact h0), h00, e1, e2, e3, hc]
    rcases hsz with rfl | rfl | rfl | ⟨n2, n3, n4⟩
    · have hlo := hlo (by decide)
      unfold checkN at hv hm
      simp only [if_true] at hv hm
      split at hv
      next h => split at h <;> simp_all
      next k h =>
        split at h
        · cases h
        · obtain rfl := Option.some.inj h
          refine ⟨2, by omega, by omega, hv, fun j hj => ?_, fun m hk he => hm 2 m (by omega) hk he ?_⟩
          · match j, hj with
            | 0, _ => exact h0
            | 1, _ => omega
          · rw [he 1 (by omega), if_neg (by omega)]
    · have hlo := hlo (by decide)
      unfold checkN at hv hm
      simp only [if_true, show ¬ (3 = 2) by decide, if_false] at hv hm
      split at hv
      next h => split at h <;> simp_all
      next k h =>
        split at h
        · cases h
        · obtain rfl := Option.some.inj h
          refine ⟨3, by omega, by omega, hv, fun j hj => ?_, fun m hk he => hm 3 m (by omega) hk he ?_⟩
          · match j, hj with
            | 0, _ => exact h0
            | 1, _ => omega
            | 2, _ => omega
          · rw [he 1 (by omega), he 2 (by omega), if_neg (by omega)]
    · have hlo := hlo (by decide)
      unfold checkN at hv hm
      simp only [if_true, show ¬ (4 = 2) by decide, show ¬ (4 = 3) by decide, if_false] at hv hm
      split at hv
      next h => split at h <;> simp_all
      next k h =>
        split at h
        · cases h
        · obtain rfl := Option.some.inj h
          refine ⟨4, by omega, by omega, hv, fun j hj => ?_, fun m hk he => hm 4 m (by omega) hk he ?_⟩
          · match j, hj with
            | 0, _ => exact h0
            | 1, _ => omega
            | 2, _ => omega
            | 3, _ => omega
          · rw [he 1 (by omega), he 2 (by omega), he 3 (by omega), if_neg (by omega)]
    · unfold checkN at hv
      rw [if_neg n2, if_neg n3, if_neg n4] at hv
      cases hv
  refine fin _ _ _ rfl rfl rfl ?_ (by omega)
  rcases firstT_cases (l.getD 0 0).toNat with h | h | h | h | h | h | h | h | h <;> rw [h] <;> decide
/-- o, and whatever stands behind it, is valid as that is. -/
def Whole (o : List UInt8) : Prop := ∀ r, validD (o ++ r) = validD r
theorem Whole.nil : Whole [] := fun _ => rfl
theorem Whole.app {o p : List UInt8} (h : Whole o) (k : Whole p) : Whole (o ++ p) := fun r => by rw [List.append_assoc, h, k]
theorem Whole.one {c : UInt8} (h : c.toNat < 128) : Whole [c] := fun r => validD_cons c r h
theorem Whole.valid {o : List UInt8} (h : Whole o) : validD o = true := by have := h []; simpa [validD_nil] using this
theorem lead_whole (l : List UInt8) (k : Nat) (hk : k ≤ l.length) (h : ∀ m : List UInt8, k ≤ m.length → (∀ j, j < k → m.getD j 0 = l.getD j 0) → validD m = validD (m.drop k)) : Whole (l.take k) := by
  intro r
  have hl : (l.take k).length = k := by simp; omega
  rw [h (l.take k ++ r) (by simp; omega) (fun j hj => by
    simp only [List.getD_eq_getElem?_getD]
    rw [List.getElem?_append_left (by omega), List.getElem?_take, if_pos hj]), List.drop_append_of_le_length (by omega), List.drop_of_length_le (by omega)]
  rfl
theorem valid_whole : ∀ (n : Nat) (l : List UInt8), l.length ≤ n → validD l = true → Whole l
  | _, [], _, _ => Whole.nil
  | 0, _ :: _, h, _ => by simp at h
  | n + 1, c :: t, h, hv => by
    by_cases hc : c.toNat < 128
    · rw [validD_cons c t hc] at hv
      exact (Whole.one hc).app (valid_whole n t (by simp at h; omega) hv)
    · obtain ⟨k, h2, hk, hd, _, hm⟩ := lead_run (c :: t) (by simp) (by simp; omega) hv
      have := (lead_whole _ k hk hm).app (valid_whole n ((c :: t).drop k) (by simp at h ⊢; omega) hd)
      rwa [List.take_append_drop] at this
theorem run_solid : ∀ (p : List UInt8) (o : List UInt8), (∀ c ∈ p, c ≠ 32) → run (false, o) p = (false, o ++ p)
  | [], o, _ => by simp [run]
  | c :: p, o, h => by
    rw [run_cons, step_n _ _ (h c List.mem_cons_self)]
    simp only [Bool.false_eq_true, false_and, if_false]
    rw [run_solid p _ (fun d hd => h d (List.mem_cons.2 (.inr hd)))]
    simp
theorem run_whole : ∀ (n : Nat) (l : List UInt8) (g : Bool) (o : List UInt8), l.length ≤ n → validD l = true → Whole o → Whole (run (g, o) l).2
  | _, [], _, _, _, _, h => h
  | 0, _ :: _, _, _, h, _, _ => by simp at h
  | n + 1, c :: t, g, o, h, hv, ho => by
    have ho2 : Whole (if g = true ∧ o ≠ [] then o ++ [32] else o) := by
      split
      · exact ho.app (Whole.one (by decide))
      · exact ho
    by_cases hc : c.toNat < 128
    · rw [validD_cons c t hc] at hv
      rw [run_cons]
      by_cases h32 : c = 32
      · subst h32; rw [step_b]; exact run_whole n t _ _ (by simp at h; omega) hv ho
      · rw [step_n _ _ h32]; exact run_whole n t _ _ (by simp at h; omega) hv (ho2.app (Whole.one hc))
    · obtain ⟨k, h2, hk, hd, hb, hm⟩ := lead_run (c :: t) (by simp) (by simp; omega) hv
      have hw := lead_whole _ k hk hm
      have hne : ∀ d ∈ (c :: t).take k, d ≠ 32 := by
        intro d hd2 e
        obtain ⟨j, hj, he⟩ := List.getElem_of_mem hd2
        have hj' : j < k := by simp at hj; omega
        have := hb j hj'
        rw [List.getElem_take] at he
        simp only [List.getD_eq_getElem?_getD] at this
        rw [List.getElem?_eq_getElem (by simp at hj; omega)] at this
        simp only [Option.getD_some] at this
        rw [he, e] at this
        exact absurd this (by decide)
      have e1 : run (g, o) (c :: t) = run (run (g, o) ((c :: t).take k)) ((c :: t).drop k) := by rw [← run_app, List.take_append_drop]
      have e2 : (c :: t).take k = c :: t.take (k - 1) := by
        cases k with
        | zero => omega
        | succ k => rfl
      have e3 : run (g, o) ((c :: t).take k) = (false, (if g = true ∧ o ≠ [] then o ++ [32] else o) ++ (c :: t).take k) := by
        rw [e2] at hne ⊢
        rw [run_cons, step_n _ _ (hne c List.mem_cons_self), run_solid _ _ (fun d hd => hne d (List.mem_cons.2 (.inr hd)))]
        simp
      rw [e1, e3]
      exact run_whole n _ _ _ (by simp at h ⊢; omega) hd (ho2.app hw)
theorem sq_whole (l : List UInt8) (h : validD l = true) : Whole (sq l) := run_whole l.length l false [] (Nat.le_refl _) h Whole.nil
theorem whole_of (l : List UInt8) (h : validD l = true) : Whole l := valid_whole l.length l (Nat.le_refl _) h
end Go.Proofs.YtphijnkiiokieaaGreatDoor
