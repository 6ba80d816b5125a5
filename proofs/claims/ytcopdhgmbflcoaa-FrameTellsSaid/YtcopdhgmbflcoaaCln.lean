/- slices.Clone at bytes. -/
import Derived.Test.YtcopdhgmbflcoaaAny
import Derived.Test.YtcopdhgmbflcoaaApp
import Derived.WalkSpells
import Derived.KernelRfl
import Derived.OwnWalk
namespace Go.Proofs.Ytcopdhgmbflcoaa
open Go.RowKit
set_option linter.unusedVariables false
theorem info5 : (Try.prog.info? 5).map (fun i => (i.zero, i.size, i.bytes)) = some (some (.int .u8 0), 1, 1) := by kernel_rfl
theorem wpList_own_append {P : Program} {e t tx : TypeId} (w : World) {ops : Array Oper} {rest : List Oper} {o : Oper} {a : Act} {Q : Exit → Act → World → Prop} (hgd : o.guard = none) (s x : Operand)
    (ho : o.op = .call { callee := .builtin .append, args := #[s, x], argTypes := #[t, tx] }) {i : TypeInfo} {z : Value} (ht : P.underlying t = some (.slice e)) (hi : P.info? e = some i) (hz : i.zero = some z) (hsz : i.size = 1) (hby : i.bytes = 1) (hzs : z.cells.size = 1)
    {B : Nat} {v : Value} {l : List UInt8} (hv : a.eval s = v) (h : Own e B w v l) (hB : B ≤ w.heap.size) (xv : Value) (hx : a.eval x = xv) (more : List UInt8) (hs : Src P 1 tx xv more.length (more.map bv) w) (h63 : l.length + more.length ≤ 140737488355328)
    (hK : ∀ v' w', Own e B w' v' (l ++ more) → Below B w w' → wpList P ops Q rest (a.put o.dst v') w') : wpList P ops Q (o :: rest) a w := by
  refine wpList_plain hgd fun K hK' => ?_
  obtain ⟨v', w', hrun, r1, r2⟩ := own_append (P := P) (ty := o.type) ht hi hz hsz hby hzs h hB xv more hs h63
  unfold Oper.wp
  simp [execOp, ho, resolve, invoke, builtin, hv, hx, hrun, Result.andThen]
  exact hK' _ _ (hK v' w' r1 r2)
theorem Byt.below {w w' : World} {A : Option Addr} {len cap b off : Nat} {l : List UInt8} (h : Byt w A len cap b off l) (hb : Below w.heap.size w w') : Byt w' A len cap b off l :=
  ⟨h.hlen, h.le, h.hmax, fun hz => ⟨(h.addr hz).1, Nat.lt_of_lt_of_le (h.addr hz).2 hb.size⟩, fun j u hu => by
    have hl : 0 < len := by
      rw [← h.hlen]
      have := (List.getElem?_eq_some_iff.1 hu).1
      omega
    exact (World.cell?_of_block (hb.block b (h.addr hl).2)).trans (h.cell j u hu)⟩
theorem Byt.src {w : World} {a : Addr} {len cap b off : Nat} {l : List UInt8} (h : Byt w (some a) len cap b off l) : Src Try.prog 1 22 (.slice (some a) len cap) l.length (l.map bv) w := by
  rcases Nat.eq_zero_or_pos len with hz | hz
  · have hl := h.hlen
    subst hz
    have hl0 : l = [] := List.length_eq_zero_iff.1 hl
    subst hl0
    exact Src.ofSlice w Try.underlying22 _ _ _ _ (by simp) (fun j u hu => by simp at hu) (fun u hu => by simp at hu)
  obtain ⟨ha, _⟩ := h.addr hz
  simp at ha
  subst ha
  rw [← h.hlen]
  exact Src.ofSlice w Try.underlying22 _ _ _ _ (by simp) (fun j u hu => by
    rw [List.getElem?_map] at hu
    cases hj : l[j]? with
    | none => rw [hj] at hu; cases hu
    | some x => rw [hj] at hu; simp at hu; subst hu; rw [add_plain]; exact h.cell j x hj) (fun u hu => by
    obtain ⟨x, _, rfl⟩ := List.mem_map.1 hu
    rfl)
set_option maxHeartbeats 400000 in
theorem clone_some {a : Addr} {len cap b off : Nat} {w : World} {l : List UInt8} (h : Byt w (some a) len cap b off l) (hm : len ≤ 140737488355328) :
    Calls Try.prog 14 #[.slice (some a) len cap] w fun e w' => ∃ v, e = .returned v ∧ Own 5 w.heap.size w' v l ∧ Below w.heap.size w w' := by
  have HB := Lib.hid h
  have hq : ∀ W, (binOp .eql 22 (.slice (some a) len cap) (.slice none 0 0)).run Try.prog W = .ok (.bool false) W := fun W => Lib.run_eql_slice_nil W 22 _ (some a) len cap 0 0 Try.underlying22
  obtain ⟨i0, hi, hz0, hz1, hz2⟩ := info_parts info5
  clear h
  go_enter Try.func14, Try.ntmps14
  have HA : Below w.heap.size w (w.alloc (Obj.cells #[] 5)) := (Below.refl _ _).alloc (Nat.le_refl _) _
  have HB2 := Lib.hid (HB.out.below HA)
  have HA2 := Lib.hid HA
  clear HA
  go_wp2_with (at_builtin; refine wpList_own_append (t := 22) (tx := 22) (z := .int .u8 0) _ rfl (.tmp 5) (.tmp 6) rfl Try.underlying22 hi hz0 hz1 hz2 rfl rfl (Own.nil 5 w.heap.size _ _) (by simp) _ rfl l (HB2.out.src) (by simpa [HB.out.hlen] using hm) ?_)
  intro v' w' h1 h2
  have H1 := Lib.hid h1
  have H2 := Lib.hid h2
  clear h1 h2
  go_wp2
  go_ret
  exact ⟨v', rfl, H1.out, HA2.out.trans H2.out⟩
set_option maxHeartbeats 400000 in
theorem clone_none (len cap : Nat) (w : World) :
    Calls Try.prog 14 #[.slice none len cap] w fun e w' => e = .returned (.slice none 0 0) ∧ w = w' := by
  have hq : ∀ W, (binOp .eql 22 (.slice none len cap) (.slice none 0 0)).run Try.prog W = .ok (.bool true) W := fun W => Lib.run_eql_slice_nil W 22 _ none len cap 0 0 Try.underlying22
  go_enter Try.func14, Try.ntmps14
  go_wp2
  go_ret
  exact ⟨rfl, rfl⟩
theorem clone_any {A : Option Addr} {len cap b off : Nat} {w : World} {l : List UInt8} (h : Byt w A len cap b off l) (hm : len ≤ 140737488355328) :
    Calls Try.prog 14 #[.slice A len cap] w fun e w' => ∃ v, e = .returned v ∧ Own 5 w.heap.size w' v l ∧ Below w.heap.size w w' := by
  cases A with
  | some a => exact clone_some h hm
  | none =>
    refine (clone_none len cap w).mono ?_
    rintro e w' ⟨rfl, rfl⟩
    have hl : l = [] := by
      apply List.length_eq_zero_iff.1
      rw [h.hlen]
      rcases Nat.eq_zero_or_pos len with hz | hz
      · exact hz
      · cases (h.addr hz).1
    subst hl
    exact ⟨_, rfl, Own.nil _ _ _ _, Below.refl _ _⟩
end Go.Proofs.Ytcopdhgmbflcoaa
