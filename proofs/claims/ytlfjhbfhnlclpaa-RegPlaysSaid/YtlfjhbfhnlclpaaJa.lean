/- Maps with int keys that hold whatever values: what stands where, how many. -/
import Derived.Test.YtlfjhbfhnlclpaaWords
import Derived.Test.YtlfjhbfhnlclpaaProg
import Derived.WalkKit
import Derived.Lib.Hide
import Derived.KernelRfl
import Derived.Maps.Own
import Derived.Maps.OwnOps
import Derived.Maps.Views
import Derived.BigQuiet
import Derived.RegionTactic
import Derived.Deep.QuietTactic
namespace Go.Proofs.Ytlfjhbfhnlclpaa
open Go.RowKit Go.Maps
open Go.WideElems (rg Fit)
open Go.ChangeMaps Go.MapKept
set_option linter.unusedVariables false
set_option maxRecDepth 20000
abbrev VD := DataW Value
/-- A value reads as itself. -/
def RV (v : Value) : Option (VD × List MemPlace) := some (.held v, [])
theorem K3 : Keyed Try.prog 3 := int_keyed Try.underlying3
def wf (x : Int) : Prop := (Lit.int .i64 x).wf = true
theorem key3 {x : Int} (h : wf x) : keyOf Try.prog 3 (.int .i64 x) = some (.int .i64 x) := keyOf_int_mk Try.underlying3 h
theorem wf_i64 {a : Int} (w : (Lit.int .i64 a).wf = true) : -9223372036854775808 ≤ a ∧ a ≤ 9223372036854775807 := by simpa [Lit.wf, IntKind.min, IntKind.max, IntKind.signed, IntKind.bits] using w
theorem wf_mk {a : Int} (h1 : -9223372036854775808 ≤ a) (h2 : a ≤ 9223372036854775807) : wf a := by unfold wf; simp [Lit.wf, IntKind.min, IntKind.max, IntKind.signed, IntKind.bits]; omega
/-- What lies at x. -/
def vl (D : VD) (x : Int) : Option Value :=
  match D.atKey (.int .i64 x) .nil with
  | .held v => some v
  | _ => none
theorem key_lit (x : Int) : WideAt.IsKeyLit (.int .i64 x) := by simp [WideAt.IsKeyLit]
theorem vl_put {D : VD} (h : IsMap D) (x : Int) (v : Value) : vl (D.put (.int .i64 x) (.held v)) x = some v := by unfold vl; rw [atKey_put_same h (key_lit x)]
theorem vl_put_ne {D : VD} {x y : Int} (hne : y ≠ x) (d : VD) : vl (D.put (.int .i64 x) d) y = vl D y := by unfold vl; rw [atKey_put_other (by simpa using hne)]
theorem vl_del (D : VD) (x : Int) : vl (D.del (.int .i64 x)) x = none := by unfold vl; rw [atKey_del_same]
theorem vl_del_ne {D : VD} {x y : Int} (hne : y ≠ x) : vl (D.del (.int .i64 x)) y = vl D y := by unfold vl; rw [atKey_del_other (by simpa using hne)]
/-- A map's datum: no key twice; what is there is held. -/
structure Vd (D : VD) : Prop where
  tidy : Tidy D
  has : ∀ x : Int, Maps.has D (.int .i64 x) = (vl D x).isSome
theorem Vd.empty : Vd (.map []) := ⟨tidy_empty, fun x => rfl⟩
theorem Vd.put {D : VD} (h : Vd D) (x : Int) (v : Value) : Vd (D.put (.int .i64 x) (.held v)) :=
  ⟨h.tidy.put (key_lit x) _, fun y => by
    by_cases e : y = x
    · subst e
      rw [has_put_same h.tidy.isMap (key_lit y), vl_put h.tidy.isMap]; rfl
    · rw [has_put_other (by simpa using e), vl_put_ne e, h.has]⟩
theorem Vd.del {D : VD} (h : Vd D) (x : Int) : Vd (D.del (.int .i64 x)) :=
  ⟨h.tidy.del _, fun y => by
    by_cases e : y = x
    · subst e
      rw [has_del_same, vl_del]; rfl
    · rw [has_del_other (by simpa using e), vl_del_ne e, h.has]⟩
theorem Vd.size_put {D : VD} (h : Vd D) (x : Int) (v : Value) : Maps.size (D.put (.int .i64 x) (.held v)) = if (vl D x).isSome then Maps.size D else Maps.size D + 1 := by
  rw [Maps.size_put h.tidy, h.has]
theorem Vd.size_del {D : VD} (h : Vd D) (x : Int) : Maps.size (D.del (.int .i64 x)) + (if (vl D x).isSome then 1 else 0) = Maps.size D := by
  rw [← h.has]
  exact Maps.size_del h.tidy
def Vm (w : World) (b : Nat) (D : VD) : Prop := ∃ es clock, w.heap[b]? = some (.map es clock) ∧ Fit Try.prog 3 RV es clock ∧ D = .map ((es.toList.map (rg Try.prog 3 RV)).foldr DataW.insert []) ∧ Vd D
theorem Vm.lt {w : World} {b : Nat} {D : VD} (h : Vm w b D) : b < w.heap.size := by
  obtain ⟨es, clock, hb, _⟩ := h
  exact (Array.getElem?_eq_some_iff.1 hb).1
theorem Vm.vd {w : World} {b : Nat} {D : VD} (h : Vm w b D) : Vd D := by
  obtain ⟨es, clock, hb, _, _, h⟩ := h
  exact h
theorem Vm.off {w w' : World} {b : Nat} {D : VD} (h : Vm w b D) (hb : w'.heap[b]? = w.heap[b]?) : Vm w' b D := by
  obtain ⟨es, clock, h1, h2, h3, h4⟩ := h
  exact ⟨es, clock, hb.trans h1, h2, h3, h4⟩
theorem Vm.made (w : World) : Vm (w.alloc (.map #[] 0)) w.heap.size (.map []) :=
  ⟨#[], 0, (MapKept.heap_alloc w _).1, ⟨by simp, stamped_empty 0, by simp⟩, rfl, Vd.empty⟩
theorem Vm.size_eq {D : VD} {es : Array MapEntry} (h : D = .map ((es.toList.map (rg Try.prog 3 RV)).foldr DataW.insert [])) : Maps.size D = es.size := by
  subst h
  show List.length _ = _
  rw [length_sorted]
  simp
theorem Vm.look {w : World} {b : Nat} {D : VD} {t e : TypeId} (h : Vm w b D) (ht : Try.prog.underlying t = some (.map 3 e)) {z : Value} (hz : (zeroValue e).run Try.prog w = .ok z w) {x : Int} (hx : wf x) :
    (Instr.lookup t (.map (some b)) (.int .i64 x) true).run Try.prog w = .ok (.tuple #[(vl D x).getD z, .bool (vl D x).isSome]) w ∧ (Instr.lookup t (.map (some b)) (.int .i64 x) false).run Try.prog w = .ok ((vl D x).getD z) w := by
  obtain ⟨es, clock, hb, F, rfl, _⟩ := h
  rcases fit_look true K3 ht hz hb F (key3 hx) with ⟨h1, h0, h2⟩ | ⟨e0, y, m1, m2, h1, h2, h3, _⟩
  · have ha : vl (DataW.map ((es.toList.map (rg Try.prog 3 RV)).foldr DataW.insert [])) x = none := by unfold vl; rw [h2]
    rw [ha]
    refine ⟨h1, ?_⟩
    rcases fit_look false K3 ht hz hb F (key3 hx) with ⟨g1, _, _⟩ | ⟨e1, y1, n1, n2, _⟩
    · exact g1
    · exact absurd n2 (h0 e1 n1)
  · cases h2
    have ha : vl (DataW.map ((es.toList.map (rg Try.prog 3 RV)).foldr DataW.insert [])) x = some e0.val := by unfold vl; rw [h3]
    rw [ha]
    refine ⟨h1, ?_⟩
    rcases fit_look false K3 ht hz hb F (key3 hx) with ⟨g1, g2, _⟩ | ⟨e1, y1, n1, n2, g1, g2, g3, _⟩
    · exact absurd m2 (g2 e0 m1)
    · cases g2
      have e : (DataW.held e1.val : VD) = .held e0.val := (g3 .nil).symm.trans (h3 .nil)
      injection e with e
      rw [← e]
      exact g1
theorem grown_set {w : World} {b : Nat} {es : Array MapEntry} {clock : Nat} {o2 : Obj} (hb : w.heap[b]? = some (.map es clock)) : w.grownBy (setBlock w b o2) (some b) :=
  ⟨rfl, rfl, rfl, by simp [setBlock], fun j hj hne => heap_setBlock_other hb _ (fun e => hne (by rw [e]))⟩
theorem Vm.upd {w : World} {b : Nat} {D : VD} {t e : TypeId} (h : Vm w b D) (hs : Maps.size D ≤ 1000000) (ht : Try.prog.underlying t = some (.map 3 e)) {x : Int} (hx : wf x) (v : Value) :
    ∃ w2, (Instr.mapUpdate t (.map (some b)) (.int .i64 x) v).run Try.prog w = .ok () w2 ∧ Vm w2 b (D.put (.int .i64 x) (.held v)) ∧ w.grownBy w2 (some b) ∧ w2.heap.size = w.heap.size := by
  obtain ⟨es, clock, hb, F, hD, hT⟩ := h
  have hsz := Vm.size_eq hD
  obtain ⟨es', clock', hrun, F', hput, _⟩ := fit_store (R' := RV) K3 ht hb F (by unfold maxLen; omega) (fun _ _ _ _ h => h) (key3 hx) (rfl : RV v = some (.held v, []))
  refine ⟨_, hrun, ⟨es', clock', heap_setBlock_same hb _, F', ?_, hT.put x v⟩, grown_set hb, by simp [setBlock]⟩
  rw [hD]
  show DataW.map _ = DataW.map _
  exact congrArg DataW.map hput.symm
theorem Vm.drop {w : World} {b : Nat} {D : VD} {t e : TypeId} (ty : TypeId) (h : Vm w b D) (ht : Try.prog.underlying t = some (.map 3 e)) {x : Int} (hx : wf x) :
    ∃ w2, (Builtin.delete_ #[t, 3] ty #[.map (some b), .int .i64 x]).run Try.prog w = .ok (.tuple #[]) w2 ∧ Vm w2 b (D.del (.int .i64 x)) ∧ w.grownBy w2 (some b) ∧ w2.heap.size = w.heap.size := by
  obtain ⟨es, clock, hb, F, hD, hT⟩ := h
  obtain ⟨es', hrun, F', hs', hdel, _⟩ := fit_drop (ty := ty) K3 ht hb F (key3 hx)
  refine ⟨_, hrun, ⟨es', clock, heap_setBlock_same hb _, F', ?_, hT.del x⟩, grown_set hb, by simp [setBlock]⟩
  rw [hD]
  show DataW.map _ = DataW.map _
  exact congrArg DataW.map hdel.symm
theorem Vm.len {w : World} {b : Nat} {D : VD} {t e : TypeId} (ty : TypeId) (h : Vm w b D) (ht : Try.prog.underlying t = some (.map 3 e)) :
    (Builtin.len_ #[t] ty #[.map (some b)]).run Try.prog w = .ok (.int .i64 (Maps.size D)) w := by
  obtain ⟨es, clock, hb, F, hD, hT⟩ := h
  rw [Vm.size_eq hD]
  simp [Builtin.len_, run_underlying ht, MapKept.run_getObj_map hb, goInt]
theorem same_key (y x : Int) : (Lit.int .i64 y).sameKey (.int .i64 x) = decide (y = x) := by
  by_cases h : y = x
  · subst h; simp [Lit.sameKey]
  · simp [Lit.sameKey, h]
theorem Vm.owns {w : World} {b : Nat} {D : VD} (h : Vm w b D) : w.ownsMap Try.prog 3 RV b (Maps.size D) D := by
  obtain ⟨es, clock, hb, F, hD, hT⟩ := h
  refine ⟨es, clock, hb, F, ?_, hD⟩
  rw [Vm.size_eq hD]
  exact Nat.le_refl _
end Go.Proofs.Ytlfjhbfhnlclpaa
