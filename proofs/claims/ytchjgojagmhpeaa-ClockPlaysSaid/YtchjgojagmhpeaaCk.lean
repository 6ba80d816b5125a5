/- The clock: its time and its alarms; its methods. -/
import Derived.Test.YtchjgojagmhpeaaProg
import Derived.Test.YtchjgojagmhpeaaWords
import Derived.Test.YtchjgojagmhpeaaSlice
import Derived.WalkKit
import Derived.Lib.Hide
import Derived.KernelRfl
import Derived.BigQuiet
import Derived.RegionTactic
import Derived.Deep.QuietTactic
import Derived.IntWalk
import Derived.Maps.Own
import Derived.Maps.OwnOps
import Derived.Maps.Views
import Derived.Maps.RangeWalk
import Derived.WalkArith
namespace Go.Proofs.Ytchjgojagmhpeaa
open Go.RowKit Go.Maps
open Go.WideElems (rg Fit)
open Go.ChangeMaps Go.MapKept
set_option linter.unusedVariables false
set_option maxRecDepth 20000
abbrev MD := DataW Unit
noncomputable abbrev PE : Value → Option (DataW Unit × List MemPlace) := plainElem Try.prog 3
theorem K3 : Keyed Try.prog 3 := int_keyed Try.underlying3
theorem zero3 (w : World) : (zeroValue 3).run Try.prog w = .ok (.int .i64 0) w := by kernel_rfl
def wf (x : Int) : Prop := (Lit.int .i64 x).wf = true
theorem key3 {x : Int} (h : wf x) : keyOf Try.prog 3 (.int .i64 x) = some (.int .i64 x) := keyOf_int_mk Try.underlying3 h
/-- Whose alarm, at what time. -/
def al (D : MD) (x : Int) : Option Int :=
  match D.atKey (.int .i64 x) .nil with
  | .lit (.int .i64 v) => some v
  | _ => none
structure Clk (w : World) (R b : Nat) (now : Int) (n : Nat) (D : MD) : Prop where
  box : Blk w R 45 #[.int .i64 now, .map (some b)]
  own : w.ownsMap Try.prog 3 PE b n D
  ne : R ≠ b
  is : IsMap D
structure Tk (w w' : World) (R b : Nat) : Prop where
  os : w'.os = w.os
  tape : w'.tape = w.tape
  output : w'.output = w.output
  size : w.heap.size ≤ w'.heap.size
  block : ∀ j, j < w.heap.size → j ≠ R → j ≠ b → w'.heap[j]? = w.heap[j]?
theorem Tk.refl (w : World) (R b : Nat) : Tk w w R b := ⟨rfl, rfl, rfl, Nat.le_refl _, fun _ _ _ _ => rfl⟩
theorem Tk.below {w w' : World} {R b B : Nat} (h : Tk w w' R b) (h1 : B ≤ R) (h2 : B ≤ b) (h3 : B ≤ w.heap.size) : Below B w w' :=
  ⟨h.os, h.tape, h.output, h.size, fun k hk => h.block k (by omega) (by omega) (by omega)⟩
section
variable {w : World} {R b n : Nat} {now : Int} {D : MD}
theorem Clk.c0 (h : Clk w R b now n D) : w.cell? ⟨R, 0, none⟩ = some (.int .i64 now) ∧ w.frozen? ⟨R, 0, none⟩ = false := ⟨h.box.cell 0, h.box.frozen 0⟩
theorem Clk.c1 (h : Clk w R b now n D) : w.cell? ⟨R, 1, none⟩ = some (.map (some b)) := h.box.cell 1
theorem Clk.drewN (h : Clk w R b now n D) (m : Nat) : Clk (w.drewN m) R b now n D := ⟨h.box.drewN m, h.own, h.ne, h.is⟩
theorem Clk.lt (h : Clk w R b now n D) : R < w.heap.size ∧ b < w.heap.size := ⟨h.box.lt, h.own.lt⟩
theorem Clk.kept {w' : World} (h : Clk w R b now n D) (hb : Below w.heap.size w w') : Clk w' R b now n D :=
  ⟨h.box.below hb h.box.lt, h.own.kept (row := none) ⟨hb.os, hb.tape, hb.output, hb.size, fun i hi _ => hb.block i hi⟩ (by simp), h.ne, h.is⟩
/-- 'v, ok := m[k]'. -/
theorem look_ok (h : w.ownsMap Try.prog 3 PE b n D) {x : Int} (hx : wf x) :
    (Instr.lookup 43 (.map (some b)) (.int .i64 x) true).run Try.prog w = .ok (.tuple #[.int .i64 ((al D x).getD 0), .bool (al D x).isSome]) w ∧ (∀ v, al D x = some v → wf v) := by
  obtain ⟨es, clock, hb, F, hs, rfl⟩ := h
  rcases fit_look true K3 Try.underlying43 (zero3 w) hb F (key3 hx) with ⟨h1, _, h2⟩ | ⟨e0, y, _, _, h1, h2, h3, _⟩
  · have ha : al (DataW.map ((es.toList.map (rg Try.prog 3 PE)).foldr DataW.insert [])) x = none := by unfold al; rw [h2]
    rw [ha]
    exact ⟨h1, fun v hv => by cases hv⟩
  · obtain ⟨c, hc, rfl, hw⟩ := plainElem_int_inv Try.underlying3 h2
    have ha : al (DataW.map ((es.toList.map (rg Try.prog 3 PE)).foldr DataW.insert [])) x = some c := by unfold al; rw [h3]
    rw [ha]
    rw [hc] at h1
    exact ⟨h1, fun v hv => by cases hv; exact hw⟩
theorem key_lit (x : Int) : WideAt.IsKeyLit (.int .i64 x) := by simp [WideAt.IsKeyLit]
theorem al_put (h : IsMap D) (x v : Int) : al (D.put (.int .i64 x) (.lit (.int .i64 v))) x = some v := by unfold al; rw [atKey_put_same h (key_lit x)]
theorem al_put_ne {x y : Int} (hne : y ≠ x) (d : MD) : al (D.put (.int .i64 x) d) y = al D y := by unfold al; rw [atKey_put_other (by simpa using hne)]
theorem al_del (x : Int) : al (D.del (.int .i64 x)) x = none := by unfold al; rw [atKey_del_same]
theorem al_del_ne {x y : Int} (hne : y ≠ x) : al (D.del (.int .i64 x)) y = al D y := by unfold al; rw [atKey_del_other (by simpa using hne)]
theorem new_any (w : World) : Calls Try.prog 8 #[] w fun e w' => ∃ R b, e = .returned (.pointer (some ⟨R, 0, none⟩)) ∧ Clk w' R b 0 0 (.map []) ∧ w.heap.size ≤ R ∧ w.heap.size ≤ b ∧ Below w.heap.size w w' := by
  have hmm := @run_makeMap Try.prog
  go_enter Try.func8, Try.ntmps8
  go_wp2
  go_ret
  refine ⟨w.heap.size + 1, w.heap.size, rfl, ⟨?_, ?_, by omega, isMap_empty⟩, by omega, Nat.le_refl _, ((Below.refl _ _).alloc (Nat.le_refl _) _).alloc (by simp) _⟩
  · have := Blk.new (w.alloc (.map #[] 0)) 45 #[.int .i64 0, .map (some w.heap.size)]
    simpa using this
  · exact (World.ownsMap_made w Try.prog 3 PE).alloc _
theorem now_any (h : Clk w R b now n D) : Calls Try.prog 17 #[.pointer (some ⟨R, 0, none⟩)] w fun e w' => e = .returned (.int .i64 now) ∧ w' = w := by
  have c0 := h.c0.1
  clear h
  go_enter Try.func17, Try.ntmps17
  go_wp2
  go_ret
  exact ⟨rfl, rfl⟩
theorem at_any (h : Clk w R b now n D) (x : Int) (hx : wf x) : Calls Try.prog 15 #[.pointer (some ⟨R, 0, none⟩), .int .i64 x] w fun e w' => e = .returned (.tuple #[.int .i64 ((al D x).getD 0), .bool (al D x).isSome]) ∧ w' = w := by
  have c1 := h.c1
  have hlk := (look_ok h.own hx).1
  clear h
  go_enter Try.func15, Try.ntmps15
  go_wp2
  go_ret2
  exact ⟨rfl, rfl⟩
def dueB (D : MD) (now x : Int) : Bool := match al D x with | some at_ => decide (at_ ≤ now) | none => false
theorem due_any (h : Clk w R b now n D) (x : Int) (hx : wf x) : Calls Try.prog 18 #[.pointer (some ⟨R, 0, none⟩), .int .i64 x] w fun e w' => e = .returned (.bool (dueB D now x)) ∧ w' = w := by
  have c1 := h.c1
  have c0 := h.c0.1
  have hlk := (look_ok h.own hx).1
  cases ha : al D x with
  | none =>
    rw [ha] at hlk
    simp only [Option.getD_none, Option.isSome_none] at hlk
    have HD := Lib.hid (show dueB D now x = false by unfold dueB; rw [ha])
    rw [HD.out]
    clear h ha
    go_enter Try.func18, Try.ntmps18
    go_wp2
    go_ret
    exact ⟨rfl, rfl⟩
  | some v =>
    rw [ha] at hlk
    simp only [Option.getD_some, Option.isSome_some] at hlk
    have HD := Lib.hid (show dueB D now x = decide (v ≤ now) by unfold dueB; rw [ha])
    rw [HD.out]
    clear h ha
    go_enter Try.func18, Try.ntmps18
    go_wp2
    go_ret
    exact ⟨rfl, rfl⟩
theorem set_any (h : Clk w R b now n D) (hn : n ≤ 1000000) (x v : Int) (hx : wf x) (hv : wf v) : Calls Try.prog 11 #[.pointer (some ⟨R, 0, none⟩), .int .i64 x, .int .i64 v] w fun e w' => e = .returned (.tuple #[]) ∧ Clk w' R b now (n + 1) (D.put (.int .i64 x) (.lit (.int .i64 v))) ∧ Tk w w' R b := by
  have c1 := h.c1
  obtain ⟨w2, hrun, ho, hg⟩ := h.own.update K3 Try.underlying43 (by unfold maxLen; omega) (key3 hx) (plainElem_int Try.underlying3 hv)
  have H2 := Lib.hid (show Clk w2 R b now (n + 1) (D.put (.int .i64 x) (.lit (.int .i64 v))) from ⟨h.box.grown hg (by simpa using h.ne), ho, h.ne, h.is.put _ _⟩)
  have HT := Lib.hid (show Tk w w2 R b from ⟨hg.os, hg.tape, hg.output, hg.size, fun j h1 h2 h3 => hg.block j h1 (by simpa using h3)⟩)
  clear h ho hg
  go_enter Try.func11, Try.ntmps11
  go_wp2
  go_end0
  exact ⟨rfl, H2.out, HT.out⟩
theorem drop_any (h : Clk w R b now n D) (x : Int) (hx : wf x) : Calls Try.prog 13 #[.pointer (some ⟨R, 0, none⟩), .int .i64 x] w fun e w' => e = .returned (.bool (al D x).isSome) ∧ Clk w' R b now n (D.del (.int .i64 x)) ∧ Tk w w' R b := by
  have c1 := h.c1
  have hlk := (look_ok h.own hx).1
  obtain ⟨es, clock, hb, F, hs, hD⟩ := h.own
  obtain ⟨es', hrun, F', hs', hdel, _⟩ := fit_drop (ty := 0) K3 Try.underlying43 hb F (key3 hx)
  have H2 : Hid (Clk (setBlock w b (.map es' clock)) R b now n (D.del (.int .i64 x))) := Lib.hid
    ⟨(heap_setBlock_other hb _ h.ne).trans h.box, ⟨es', clock, heap_setBlock_same hb _, F', Nat.le_trans hs' hs, by rw [hD]; show DataW.map _ = DataW.map _; exact congrArg DataW.map hdel.symm⟩, h.ne, h.is.del _⟩
  have HT : Hid (Tk w (setBlock w b (.map es' clock)) R b) := Lib.hid ⟨rfl, rfl, rfl, by simp [setBlock], fun j _ _ h3 => heap_setBlock_other hb _ h3⟩
  clear h hb F hs hD F' hs' hdel
  go_enter Try.func13, Try.ntmps13
  go_wp2
  go_ret
  exact ⟨rfl, H2.out, HT.out⟩
theorem tick_no (h : Clk w R b now n D) (hr : 0 ≤ now ∧ now ≤ 1099511627776) (k : Int) (hk : k < 0 ∨ 1099511627776 - now < k) : Calls Try.prog 9 #[.pointer (some ⟨R, 0, none⟩), .int .i64 k] w fun e w' => e = .returned (.bool false) ∧ w' = w := by
  have c0 := h.c0.1
  obtain ⟨r1, r2⟩ := hr
  clear h
  by_cases k0 : k < 0
  · clear hk
    go_enter Try.func9, Try.ntmps9
    go_wp2
    go_ret
    exact ⟨rfl, rfl⟩
  · have k1 : k > 1099511627776 - now := by omega
    clear hk
    go_enter Try.func9, Try.ntmps9
    go_wp2
    go_ret
    exact ⟨rfl, rfl⟩
theorem tick_yes (h : Clk w R b now n D) (hr : 0 ≤ now ∧ now ≤ 1099511627776) (k : Int) (hk0 : 0 ≤ k) (hk : k ≤ 1099511627776 - now) : Calls Try.prog 9 #[.pointer (some ⟨R, 0, none⟩), .int .i64 k] w fun e w' => e = .returned (.bool true) ∧ Clk w' R b (now + k) n D ∧ Tk w w' R b := by
  obtain ⟨c0, f0⟩ := h.c0
  obtain ⟨r1, r2⟩ := hr
  have H2 := Lib.hid (show Clk (w.setCell ⟨R, 0, none⟩ (.int .i64 (now + k))) R b (now + k) n D from ⟨h.box.set_ 0 _, h.own.kept (row := some R) ⟨rfl, rfl, rfl, by simp [World.setCell], fun j _ hj => Below.heap_setCell _ _ _ _ (fun e => hj (by simp [e]))⟩ (by simpa using h.ne.symm), h.ne, h.is⟩)
  have HT := Lib.hid (show Tk w (w.setCell ⟨R, 0, none⟩ (.int .i64 (now + k))) R b from ⟨rfl, rfl, rfl, by simp [World.setCell], fun j _ hj _ => Below.heap_setCell _ _ _ _ hj⟩)
  have k1 : ¬ k > 1099511627776 - now := by omega
  clear h
  go_enter Try.func9, Try.ntmps9
  go_wp2
  go_ret
  exact ⟨rfl, H2.out, HT.out⟩
end
end Go.Proofs.Ytchjgojagmhpeaa
