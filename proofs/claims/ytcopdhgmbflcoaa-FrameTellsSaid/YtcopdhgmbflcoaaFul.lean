/- frame.Next where a whole frame is there. -/
import Derived.Test.YtcopdhgmbflcoaaNxt
import Derived.Deep.RegionWith
namespace Go.Proofs.Ytcopdhgmbflcoaa
open Go.RowKit
set_option linter.unusedVariables false
theorem sum_test (k p q : UInt8) (l : List UInt8) : ((fsm (wrap64 (k.toNat : Int)) l != bits BinOp.or IntKind.i64 (wrap64 (wrap64 (p.toNat : Int) * 256)) (wrap64 (q.toNat : Int))) = true → ¬ fsm (k.toNat : Int) l = (p.toNat : Int) * 256 + (q.toNat : Int)) ∧
    ((fsm (wrap64 (k.toNat : Int)) l != bits BinOp.or IntKind.i64 (wrap64 (wrap64 (p.toNat : Int) * 256)) (wrap64 (q.toNat : Int))) = false → fsm (k.toNat : Int) l = (p.toNat : Int) * 256 + (q.toNat : Int)) := by
  have ha := k.toNat_lt
  have hb := p.toNat_lt
  have hc := q.toNat_lt
  rw [IntWalk.wrap64_in (k.toNat : Int) (by omega), IntWalk.wrap64_in (p.toNat : Int) (by omega), IntWalk.wrap64_in (q.toNat : Int) (by omega), IntWalk.wrap64_in _ (by omega),
    or_join 8 ((p.toNat : Int) * 256) (q.toNat : Int) (by omega) (by omega) (by omega) (by omega) (by omega) (by omega)]
  exact ⟨fun h => by simpa using h, fun h => by simpa using h⟩
def fout (k p q : UInt8) (l : List UInt8) (m : Nat) : Array Value := if fsm (k.toNat : Int) l = (p.toNat : Int) * 256 + (q.toNat : Int) then #[.agg #[.int .i64 (k.toNat : Int), .string ⟨l.toArray⟩], .int .i64 ((m : Int) + 6), .int .i64 0] else #[emp, .int .i64 0, .int .i64 1]
theorem full_ret (k : UInt8) (l : List UInt8) (m : Nat) : Ending.returned (.tuple #[.agg #[.int .i64 (wrap64 (k.toNat : Int)), .string ⟨l.toArray⟩], .int .i64 (4 + (m : Int) + 2), .int .i64 0]) = .returned (.tuple #[.agg #[.int .i64 (k.toNat : Int), .string ⟨l.toArray⟩], .int .i64 ((m : Int) + 6), .int .i64 0]) := by
  have ha := k.toNat_lt
  rw [IntWalk.wrap64_in (k.toNat : Int) (by omega), show 4 + (m : Int) + 2 = (m : Int) + 6 by omega]
set_option maxHeartbeats 400000 in
theorem next_full (b off len cap m : Nat) (w : World) (l : List UInt8) (k : UInt8) (x y z p q : UInt8) (hl : len ≤ maxLen) (hlc : len ≤ cap) (h0 : w.cell? ⟨b, off, none⟩ = some (.int .u8 x.toNat)) (h1 : w.cell? ⟨b, off + 1, none⟩ = some (.int .u8 y.toNat)) (h2 : w.cell? ⟨b, off + 2, none⟩ = some (.int .u8 z.toNat))
    (hL : l.length = m) (hc : ∀ j u, l[j]? = some u → w.cell? ⟨b, off + 4 + j, none⟩ = some (.int .u8 (u.toNat : Int)))
    (h4 : w.cell? ⟨b, off + (m + 4), none⟩ = some (.int .u8 p.toNat)) (h5 : w.cell? ⟨b, off + (m + 5), none⟩ = some (.int .u8 q.toNat))
    (h3 : w.cell? ⟨b, off + 3, none⟩ = some (.int .u8 k.toNat))
    (hb : b < w.heap.size) (hm : m ≤ 20000) (he : hd3 x y z = (m : Int)) (hw : m + 6 ≤ len) :
    Calls Try.prog 8 #[.slice (some ⟨b, off, none⟩) len cap] w fun e w' => e = .returned (.tuple (fout k p q l m)) ∧ Below w.heap.size w w' := by
  have HO := Lib.hid ((or_shift x y z).trans he)
  unfold maxLen at hl
  have HC : ∀ nq, (convert 22 9 (.slice (some ⟨b, off + 4, none⟩) (4 + m - 4) (cap - 4))).run Try.prog (((w.alloc (Obj.cells #[Value.int IntKind.i64 0, Value.string { data := #[] }] 25)).drewN nq).drew) = .ok (.string ⟨l.toArray⟩) (((w.alloc (Obj.cells #[Value.int IntKind.i64 0, Value.string { data := #[] }] 25)).drewN nq).drew) := fun nq =>
    sub_bytes (fun j u hu => by
      have := hc j u hu
      rw [← this]
      show (w.alloc _).cell? _ = _
      exact World.cell?_of_block (Below.heap_alloc w _ b hb)) (by omega)
  have HC2 : ∀ nq, (convert 22 9 (.slice (some ⟨b, off + 4, none⟩) m (cap - 4))).run Try.prog (((w.alloc (Obj.cells #[Value.int IntKind.i64 0, Value.string { data := #[] }] 25)).drewN nq).drew) = .ok (.string ⟨l.toArray⟩) (((w.alloc (Obj.cells #[Value.int IntKind.i64 0, Value.string { data := #[] }] 25)).drewN nq).drew) := fun nq => by
    have h := HC nq
    rwa [show 4 + m - 4 = m by omega] at h
  have HC3 : ∀ nq, (convert 22 9 (.slice (some ⟨b, off + 4, none⟩) m (cap - 4))).run Try.prog ((w.alloc (Obj.cells #[Value.int IntKind.i64 0, Value.string { data := #[] }] 25)).drewN (nq + 1)) = .ok (.string ⟨l.toArray⟩) ((w.alloc (Obj.cells #[Value.int IntKind.i64 0, Value.string { data := #[] }] 25)).drewN (nq + 1)) := HC2
  clear hc
  have KQ := Lib.hid (sum_test k p q l)
  have CS := Lib.hid (fun W => (sum_any (wrap64 (k.toNat : Int)) ⟨l.toArray⟩ W (by show l.toArray.size ≤ maxLen; simp [hL, maxLen]; omega)))
  go_enter Try.func8, Try.ntmps8
  go_wp2
  go_quiet (fail)
  simp only [HO.out]
  go_wp2
  go_region
  go_wp2
  generalize hW : World.setCell (World.setCell _ _ _) _ _ = W2
  have hB : Blk W2 w.heap.size 25 #[.int .i64 (wrap64 (k.toNat : Int)), .string ⟨l.toArray⟩] := by
    rw [← hW]
    exact box_set ((Blk.new _ _ _).drewN _) _ _
  have hU : Below w.heap.size w W2 := by
    rw [← hW]
    exact box_below (below_drewN ((Below.refl _ _).alloc (Nat.le_refl _) _) _) (Nat.le_refl _) _ _
  clear hW HC HC2 HC3
  have g4 : W2.cell? ⟨b, off + (m + 4), none⟩ = some (.int .u8 p.toNat) := (World.cell?_of_block (hU.block b hb)).trans h4
  have g5 : W2.cell? ⟨b, off + (m + 5), none⟩ = some (.int .u8 q.toNat) := (World.cell?_of_block (hU.block b hb)).trans h5
  have c0 := hB.cell 0
  have c1 := hB.cell 1
  simp only [List.getElem?_toArray, List.getElem?_cons_zero, List.getElem?_cons_succ] at c0 c1
  have f0 := hB.frozen 0
  have f1 := hB.frozen 1
  have HB := Lib.hid hB
  have HU := Lib.hid hU
  clear hB hU h4 h5 h0 h1 h2 h3
  have i1 : wrap64 (4 + (m : Int)) = 4 + (m : Int) := IntWalk.wrap64_in _ (by omega)
  have i2 : wrap64 (4 + (m : Int) + 2 - 1) = 4 + (m : Int) + 2 - 1 := IntWalk.wrap64_in _ (by omega)
  have j1 : (0 : Int) ≤ 4 + (m : Int) := by omega
  have j2 : 4 + (m : Int) < (len : Int) := by omega
  have j3 : (0 : Int) ≤ 4 + (m : Int) + 2 - 1 := by omega
  have j4 : 4 + (m : Int) + 2 - 1 < (len : Int) := by omega
  have t1 : (4 + (m : Int)).toNat = m + 4 := by omega
  have t2 : (4 + (m : Int) + 2 - 1).toNat = m + 5 := by omega
  go_quiet ((go_at_call 12; exact Calls.quiet_of_same ((CS.out _).mono fun _ _ ⟨h1, h2⟩ => ⟨h1, h2.symm⟩)))
  go_wp2
  all_goals (try simp only [Exit.inBlock, Exit.then])
  · refine next_out (cs := #[.int .i64 0, .string ⟨#[]⟩]) (g := w.heap.size) rfl rfl rfl (box_set (HB.out.drewN _) _ _) ⟨?_, box_below (below_drewN HU.out _) (Nat.le_refl _) _ _⟩
    rename_i ht
    have ht2 := (KQ.out.1 ht)
    unfold fout; rw [if_neg ht2]; rfl
  · refine next_out (cs := #[.int .i64 (wrap64 (k.toNat : Int)), .string ⟨l.toArray⟩]) (g := w.heap.size) rfl rfl rfl (box_set (HB.out.drewN _) _ _) ⟨?_, box_below (below_drewN HU.out _) (Nat.le_refl _) _ _⟩
    rename_i ht
    have ht2 := (KQ.out.2 ht)
    unfold fout; rw [if_pos ht2]
    exact full_ret k l m
end Go.Proofs.Ytcopdhgmbflcoaa
