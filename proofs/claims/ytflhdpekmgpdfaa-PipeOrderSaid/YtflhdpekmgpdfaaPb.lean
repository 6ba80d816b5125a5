/- The pipe: what it holds; the methods of the builder that lies in it, at its place. -/
import Derived.Test.YtflhdpekmgpdfaaWords
import Derived.Test.YtflhdpekmgpdfaaSlice
import Derived.Test.YtflhdpekmgpdfaaProg
import Derived.WalkKit
import Derived.Deep.Upon
import Derived.Lib.Hide
import Derived.KernelRfl
import Derived.OwnWalk
import Derived.BigQuiet
import Derived.RegionTactic
import Derived.Deep.QuietTactic
import Derived.Deep.RegionWith
import Derived.Laws.Rows
import Derived.Laws.Externs
import Derived.Lib.FrozenHead
import Derived.Lib.UnsafeStr
import Derived.Lib.Builder
import Derived.Lib.Strings
namespace Go.Proofs.Ytflhdpekmgpdfaa
open Go.RowKit
set_option linter.unusedVariables false
set_option maxRecDepth 20000
structure Eff (w w' : World) (R : Nat) (g : Option Nat) : Prop where
  os : w'.os = w.os
  tape : w'.tape = w.tape
  output : w'.output = w.output
  size : w.heap.size ≤ w'.heap.size
  block : ∀ j, j < w.heap.size → j ≠ R → some j ≠ g → w'.heap[j]? = w.heap[j]?
theorem Eff.refl (w : World) (R : Nat) (g : Option Nat) : Eff w w R g := ⟨rfl, rfl, rfl, Nat.le_refl _, fun _ _ _ _ => rfl⟩
theorem Eff.drew {w w' : World} {R : Nat} {g : Option Nat} (h : Eff w w' R g) : Eff w w'.drew R g := ⟨h.os, h.tape, h.output, h.size, h.block⟩
theorem Eff.drewN {w w' : World} {R : Nat} {g : Option Nat} (h : Eff w w' R g) (n : Nat) : Eff w (w'.drewN n) R g := ⟨h.os, h.tape, h.output, h.size, h.block⟩
theorem Eff.setCell {w w' : World} {R : Nat} {g : Option Nat} (h : Eff w w' R g) (o : Nat) (u : Value) : Eff w (w'.setCell ⟨R, o, none⟩ u) R g := by
  have hb := (Below.refl 0 w').setCell (p := ⟨R, o, none⟩) (Nat.zero_le _) u
  exact ⟨hb.os.trans h.os, hb.tape.trans h.tape, hb.output.trans h.output, Nat.le_trans h.size hb.size, fun j h1 h2 h3 => (Below.heap_setCell w' _ u j h2).trans (h.block j h1 h2 h3)⟩
theorem Eff.grown {w w' w2 : World} {R : Nat} {g : Option Nat} (h : Eff w w' R g) (hg : w'.grownBy w2 g) : Eff w w2 R g :=
  ⟨hg.os.trans h.os, hg.tape.trans h.tape, hg.output.trans h.output, Nat.le_trans h.size hg.size, fun j h1 h2 h3 => (hg.block j (Nat.lt_of_lt_of_le h1 h.size) h3).trans (h.block j h1 h2 h3)⟩
theorem Eff.weak {w w' : World} {R : Nat} {g : Option Nat} (h : Eff w w' R none) : Eff w w' R g := ⟨h.os, h.tape, h.output, h.size, fun j h1 h2 _ => h.block j h1 h2 (by simp)⟩
theorem Eff.trans {w w1 w2 : World} {R : Nat} {g : Option Nat} (h : Eff w w1 R g) {g' : Option Nat} (k : Eff w1 w2 R g') (hg : ∀ j, g' = some j → g = some j ∨ w.heap.size ≤ j) : Eff w w2 R g :=
  ⟨k.os.trans h.os, k.tape.trans h.tape, k.output.trans h.output, Nat.le_trans h.size k.size, fun j h1 h2 h3 => (k.block j (Nat.lt_of_lt_of_le h1 h.size) h2 (fun e => by
    rcases hg j e.symm with h4 | h4
    · exact h3 h4.symm
    · omega)).trans (h.block j h1 h2 h3)⟩
theorem Eff.below {w w' : World} {R B : Nat} {g : Option Nat} (h : Eff w w' R g) (h1 : B ≤ R) (h2 : ∀ j, g = some j → B ≤ j) (h3 : B ≤ w.heap.size) : Below B w w' :=
  ⟨h.os, h.tape, h.output, h.size, fun k hk => h.block k (by omega) (by omega) (fun e => by have := h2 k e.symm; omega)⟩
theorem Eff.freeze {w w' : World} {R g : Nat} (h : Eff w w' R (some g)) (n : Nat) : Eff w (w'.freeze ⟨g, 0, none⟩ n) R (some g) := by
  unfold World.freeze
  split
  · exact h
  · exact ⟨h.os, h.tape, h.output, by simpa using h.size, fun j h1 h2 h3 => by
      simp only [Array.getElem?_modify]
      rw [if_neg (fun e => h3 (by rw [e]))]
      exact h.block j h1 h2 h3⟩
theorem info_parts {P : Program} {e : TypeId} {z : Value} {a b : Nat} (h : (P.info? e).map (fun i => (i.zero, i.size, i.bytes)) = some (some z, a, b)) : ∃ i, P.info? e = some i ∧ i.zero = some z ∧ i.size = a ∧ i.bytes = b := by
  cases hi : P.info? e with
  | none => rw [hi] at h; cases h
  | some i => rw [hi] at h; simp at h; exact ⟨i, rfl, h⟩
theorem info5 : (Try.prog.info? 5).map (fun i => (i.zero, i.size, i.bytes)) = some (some (.int .u8 0), 1, 1) := by kernel_rfl
theorem info42 : (Try.prog.info? 42).map (fun i => i.size) = some 2 := by kernel_rfl
theorem lies42 : liesAt Try.prog Try.prog.depth 44 (5 / Try.prog.cellsOf 44) 3 42 1 = true := by kernel_rfl
theorem cells5 : Try.prog.cellsOf 5 = 1 := by kernel_rfl
/-- The pipe at block R: its head's bytes, and those of the builder in it, whose row is block g. -/
def Pip (w : World) (B R : Nat) (room : Int) (cl : Bool) (head : ByteArray) (rest : List UInt8) (g : Option Nat) : Prop :=
  ∃ p v, Blk w R 44 #[.int .i64 room, .bool cl, .string head, .pointer p, v] ∧ (p = none ∨ p = some ⟨R, 3, none⟩) ∧ w.ownsRowF B 5 1 v rest.length (Lib.byteCells rest) ∧ v.ownBlock = g
theorem Pip.lt {w : World} {B R : Nat} {room : Int} {cl : Bool} {head : ByteArray} {rest : List UInt8} {g : Option Nat} (h : Pip w B R room cl head rest g) : R < w.heap.size := by
  obtain ⟨p, v, hb, _⟩ := h; exact hb.lt
theorem Pip.row {w : World} {B R : Nat} {room : Int} {cl : Bool} {head : ByteArray} {rest : List UInt8} {g : Option Nat} (h : Pip w B R room cl head rest g) : ∀ j, g = some j → B ≤ j ∧ j < w.heap.size ∧ j ≠ R := by
  obtain ⟨p, v, hb, _, ho, rfl⟩ := h
  intro j hj
  have hne := Lib.ownBlock_neF ho hb (by decide)
  exact ⟨(ho.lt j hj).1, (ho.lt j hj).2, fun e => hne (by rw [hj, e])⟩
theorem Pip.kept {w w' : World} {B R : Nat} {room : Int} {cl : Bool} {head : ByteArray} {rest : List UInt8} {g row : Option Nat} (h : Pip w B R room cl head rest g) (hg : w.grownBy w' row) (h1 : some R ≠ row) (h2 : g = none ∨ g ≠ row) : Pip w' B R room cl head rest g := by
  obtain ⟨p, v, hb, hp, ho, rfl⟩ := h
  exact ⟨p, v, hb.grown hg h1, hp, ho.kept hg h2, rfl⟩
theorem slice_of {w : World} {B n : Nat} {v : Value} {xs : List Value} (h : w.ownsRowF B 5 1 v n xs) : ∃ ao cap, v = .slice ao n cap := by
  rcases h.2 with ⟨hv, h0⟩ | ⟨g, cap, cur, fz, hv, _⟩
  · exact ⟨none, 0, by rw [hv, h0]⟩
  · exact ⟨_, _, hv⟩
section
variable {w : World} {B R : Nat} {room : Int} {cl : Bool} {head : ByteArray} {rest : List UInt8} {g : Option Nat}
theorem own_far {v : Value} {n : Nat} {xs : List Value} {cs : Array Value} (hb : Blk w R 44 cs) (h : w.ownsRowF B 5 1 v n xs) (o : Nat) (u : Value) : (w.setCell ⟨R, o, none⟩ u).ownsRowF B 5 1 v n xs :=
  h.kept (row := some R) ⟨rfl, rfl, rfl, by simp [World.setCell], fun k _ hk => Below.heap_setCell _ _ _ _ (fun e => hk (by simp [e]))⟩ (.inr (Lib.ownBlock_neF h hb (by decide)))
theorem blen_any (h : Pip w B R room cl head rest g) : Calls Try.prog 20 #[.pointer (some ⟨R, 3, none⟩)] w fun e w' => e = .returned (.int .i64 (rest.length : Int)) ∧ w' = w := by
  obtain ⟨p, v, hb, hp, ho, hg⟩ := h
  obtain ⟨ao, cap, rfl⟩ := slice_of ho
  have c1 := hb.cell 4
  simp only [List.getElem?_toArray, List.getElem?_cons_zero, List.getElem?_cons_succ] at c1
  clear hb ho hp hg
  go_enter Try.func20, Try.ntmps20
  go_wp2
  go_ret
  exact ⟨rfl, rfl⟩
theorem copy_used {v : Value} (h : Blk w R 44 #[.int .i64 room, .bool cl, .string head, .pointer (some ⟨R, 3, none⟩), v]) : Calls Try.prog 23 #[.pointer (some ⟨R, 3, none⟩)] w fun e w' => e = .returned (.tuple #[]) ∧ w' = w := by
  obtain ⟨j, hj, hjs⟩ := Option.map_eq_some_iff.1 info42
  have c1 := h.cell 3
  simp only [List.getElem?_toArray, List.getElem?_cons_zero, List.getElem?_cons_succ] at c1
  clear h
  go_enter Try.func23, Try.ntmps23
  go_wp2
  rw [Lib.run_neq_ptr_same w _ Try.underlying39 hj]
  go_wp2
  go_end0
  exact ⟨rfl, rfl⟩
theorem copy_fresh {v : Value} (h : Blk w R 44 #[.int .i64 room, .bool cl, .string head, .pointer none, v]) : Calls Try.prog 23 #[.pointer (some ⟨R, 3, none⟩)] w fun e w' => e = .returned (.tuple #[]) ∧ w' = w.setCell ⟨R, 3, none⟩ (.pointer (some ⟨R, 3, none⟩)) := by
  obtain ⟨j, hj, hjs⟩ := Option.map_eq_some_iff.1 info42
  have hsh : w.shape? R = some (44, 5) := by
    unfold Blk at h
    simp [World.shape?, h]
  have c1 := h.cell 3
  have f1 := h.frozen 3
  simp only [List.getElem?_toArray, List.getElem?_cons_zero, List.getElem?_cons_succ] at c1
  clear h
  go_enter Try.func23, Try.ntmps23
  go_wp2
  rw [Lib.run_to_unsafe w ⟨R, 3, none⟩ Try.underlying39 Try.underlying50 hj (by rw [hjs]; decide) hsh (show 3 < 5 by decide)]
  simp only [Result.andThen]
  rw [Oper.upon_value]
  go_wp2
  rw [run_callFunc_extern Try.func24 (by kernel_rfl) (by kernel_rfl) (by kernel_rfl) (e := Extern.AbiNoEscape.same) (by kernel_rfl)]
  rw [Lib.run_noEscape]
  simp only [Result.andThen]
  rw [Oper.upon_value]
  go_wp2
  rw [Lib.run_from_unsafe w ⟨R, 3, none⟩ Try.underlying50 Try.underlying39 hj hsh lies42]
  simp only [Result.andThen]
  rw [Oper.upon_value]
  go_wp2
  go_end0
  exact ⟨rfl, rfl⟩
theorem copy_any (h : Pip w B R room cl head rest g) : Calls Try.prog 23 #[.pointer (some ⟨R, 3, none⟩)] w fun e w' => e = .returned (.tuple #[]) ∧ Pip w' B R room cl head rest g ∧ Eff w w' R g := by
  obtain ⟨p, v, hb, hp, ho, hg⟩ := h
  rcases hp with rfl | rfl
  · refine (copy_fresh hb).mono ?_
    rintro e w' ⟨rfl, rfl⟩
    exact ⟨rfl, ⟨some ⟨R, 3, none⟩, v, hb.set_ 3 _, .inr rfl, own_far hb ho 3 _, hg⟩, (Eff.refl w R g).setCell 3 _⟩
  · refine (copy_used hb).mono ?_
    rintro e w' ⟨rfl, rfl⟩
    exact ⟨rfl, ⟨_, v, hb, .inr rfl, ho, hg⟩, Eff.refl _ R g⟩
set_option maxHeartbeats 2000000 in
theorem write_any (h : Pip w B R room cl head rest g) (s : ByteArray) (hlen : rest.length + s.size ≤ 140737488355328) (hBw : B ≤ w.heap.size) :
    Calls Try.prog 19 #[.pointer (some ⟨R, 3, none⟩), .string s] w fun e w' => e = .returned (.tuple #[.int .i64 s.size, .nilIface]) ∧ ∃ g', Pip w' B R room cl head (rest ++ s.data.toList) g' ∧ Eff w w' R g := by
  obtain ⟨i0, hi, hz0, hz1, hz2⟩ := info_parts info5
  have H := Lib.hid h
  clear h
  go_enter Try.func19, Try.ntmps19
  go_wp2_with (go_at_call 23; refine (copy_any H.out).mono ?_)
  rintro e w1 ⟨rfl, h1, hb1⟩
  obtain ⟨p, v, hbk, hp, hown, hgv⟩ := h1
  have hne := Lib.ownBlock_neF hown hbk (by decide)
  have c4 : w1.cell? ⟨R, 4, none⟩ = some v := by rw [hbk.cell 4]; rfl
  have HB := Lib.hid hbk
  have HE := Lib.hid hb1
  have hlt := hbk.lt
  clear hbk hb1
  go_wp2_with (at_builtin; refine Lib.wpList_append_own_stringF _ rfl _ _ 40 9 rfl B 5 i0 Try.underlying40 Try.underlying9 hi hz0 hz1 hz2 _ _ _ rfl hown s rfl ?c3 ?c4 ?c5 ?_)
  case c3 => unfold maxLen; omega
  case c4 => omega
  case c5 => have := HE.out.size; omega
  intro v' w2 hown' hgrow _
  have hb2 := HB.out.grown hgrow (fun e => hne (hgv.trans e.symm))
  have d1 : w2.cell? ⟨R, 4, none⟩ = some v := by rw [hb2.cell 4]; rfl
  have f1 := hb2.frozen 4
  have HB2 := Lib.hid hb2
  have HO2 := Lib.hid hown'
  have HG2 := Lib.hid hgrow
  clear hb2 hown' hgrow
  obtain ⟨ao, cap, rfl⟩ := slice_of HO2.out
  go_wp2
  go_ret2
  refine ⟨rfl, _, ⟨p, _, HB2.out.set_ 4 _, hp, ?_, rfl⟩, ?_⟩
  · have := own_far HB2.out HO2.out 4 (.slice ao (rest.length + s.size) cap)
    simpa [Lib.byteCells, Lib.strCells] using this
  · subst hgv
    exact (HE.out.grown HG2.out).setCell 4 _
set_option maxHeartbeats 1000000 in
theorem reset_any (h : Pip w B R room cl head rest g) : Calls Try.prog 22 #[.pointer (some ⟨R, 3, none⟩)] w fun e w' => e = .returned (.tuple #[]) ∧ Pip w' B R room cl head [] none ∧ Eff w w' R none := by
  obtain ⟨p, v, hb, hp, ho, hg⟩ := h
  have c3 := hb.cell 3
  have c4 := hb.cell 4
  have f3 := hb.frozen 3
  have f4 := hb.frozen 4
  simp only [List.getElem?_toArray, List.getElem?_cons_zero, List.getElem?_cons_succ] at c3 c4
  have HB := Lib.hid hb
  clear hb ho hp hg
  go_enter Try.func22, Try.ntmps22
  go_wp2
  go_end0
  refine ⟨rfl, ⟨none, .slice none 0 0, (HB.out.set_ 3 _).set_ 4 _, .inl rfl, World.ownsRowF_nil _ _ _ _, rfl⟩, ((Eff.refl w R none).setCell 3 _).setCell 4 _⟩
set_option maxHeartbeats 1000000 in
theorem str_any (h : Pip w B R room cl head rest g) (h0 : rest ≠ []) : Calls Try.prog 21 #[.pointer (some ⟨R, 3, none⟩)] w fun e w' => e = .returned (.string ⟨rest.toArray⟩) ∧ Pip w' B R room cl head rest g ∧ Eff w w' R g := by
  obtain ⟨p, v, hb, hp, hown, hgv⟩ := h
  have hl0 : rest.length ≠ 0 := by simpa using h0
  obtain ⟨k, cap, cur, ⟨lo, hi⟩, rfl, hbg, hg, hfz, hnc, hcm, hcs, htake⟩ : ∃ k cap cur fz, v = .slice (some ⟨k, 0, none⟩) rest.length cap ∧ B ≤ k ∧ w.heap[k]? = some (.cells cur 5 fz) ∧ fz.2 ≤ rest.length * 1 ∧ rest.length ≤ cap ∧ cap ≤ maxLen ∧ cur.size = cap * 1 ∧ cur.toList.take (rest.length * 1) = Lib.byteCells rest := by
    rcases hown.2 with ⟨_, hz⟩ | ⟨k, cap, cur, fz, hv, r⟩
    · exact absurd hz hl0
    · exact ⟨k, cap, cur, fz, hv, r⟩
  have c1 : w.drew.cell? ⟨R, 4, none⟩ = some (.slice (some ⟨k, 0, none⟩) rest.length cap) := by
    have := hb.cell 4
    simpa using this
  have hkR : k ≠ R := by
    rintro rfl
    exact Lib.ownBlock_neF hown hb (by decide) rfl
  have hSD : (Builtin.unsafeSliceData_ #[40] 49 #[.slice (some ⟨k, 0, none⟩) rest.length cap]).run Try.prog w.drew = .ok (.pointer (some ⟨k, 0, none⟩)) w.drew :=
    Lib.run_unsafeSliceData_row _ _ _ _ _ _ (by omega)
  have hUS : (Builtin.unsafeString_ #[49, 3] 9 #[.pointer (some ⟨k, 0, none⟩), .int .i64 rest.length]).run Try.prog w.drew = .ok (.string ⟨rest.toArray⟩) (w.drew.freeze ⟨k, 0, none⟩ rest.length) := by
    refine Lib.run_unsafeString_row w.drew 49 3 9 5 Try.underlying49 cells5 k cur.size (by have hg' : w.drew.heap[k]? = some (.cells cur 5 (lo, hi)) := hg; simp [World.shape?, hg']) rest h0 (by omega) (by unfold maxLen at hcm; omega) ?_
    intro j x hx
    have := hown.cells (g := k) rfl j (.int .u8 x.toNat) (by simp [Lib.byteCells, hx])
    exact this
  have hkeep : Pip (w.drew.freeze ⟨k, 0, none⟩ rest.length) B R room cl head rest g := by
    unfold World.freeze
    split
    · exact ⟨p, _, hb, hp, hown, hgv⟩
    · refine ⟨p, .slice (some ⟨k, 0, none⟩) rest.length cap, ?_, hp, ⟨hown.1, .inr ⟨k, cap, cur, (if (lo == hi) = true then (0, 0 + rest.length) else (min lo 0, max hi (0 + rest.length))), rfl, hbg, ?_, ?_, hnc, hcm, hcs, htake⟩⟩, hgv⟩
      · unfold Blk at hb ⊢
        simp only [Array.getElem?_modify]
        rw [if_neg hkR]
        exact hb
      · have hg' : w.drew.heap[k]? = some (.cells cur 5 (lo, hi)) := hg
        simp [Array.getElem?_modify, hg']
      · split
        · simp
        · simp at hfz ⊢; omega
  have HE := Lib.hid (show Eff w (w.drew.freeze ⟨k, 0, none⟩ rest.length) R g by
    subst hgv
    exact ((Eff.refl w R _).drew).freeze _)
  have HK := Lib.hid hkeep
  clear hkeep hb hp hown hgv hg hfz hcs htake
  go_enter Try.func21, Try.ntmps21
  go_wp2
  go_region
  all_goals (go_wp2; go_ret; exact ⟨rfl, HK.out, HE.out⟩)
end
end Go.Proofs.Ytflhdpekmgpdfaa
