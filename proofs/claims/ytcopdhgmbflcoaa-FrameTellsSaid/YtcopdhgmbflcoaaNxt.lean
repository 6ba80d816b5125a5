/- frame.Next: its walk, a text by its cases. -/
import Derived.Test.YtcopdhgmbflcoaaSum
import Derived.Test.YtcopdhgmbflcoaaSlice
import Derived.Laws.IdiomStrings
import Derived.Deep.QuietTactic
import Derived.BigQuiet
import Derived.RegionTactic
import Derived.Laws.Rows
namespace Go.Proofs.Ytcopdhgmbflcoaa
open Go.RowKit
set_option linter.unusedVariables false
def emp : Value := .agg #[.int .i64 0, .string ⟨#[]⟩]
theorem results_cell2 {fn : Func} {p u v : Tmp} {ty : TypeId} (h : fn.results = #[.cell p ty, .tmp u, .tmp v]) (tmps : Array Value) (P : Program) (w : World) (g : Nat) (t : TypeId) (cs : Array Value) (fr : Nat × Nat) (fs : Array Field)
    (hp : tmps.getD p undef = .pointer (some ⟨g, 0, none⟩)) (hg : w.heap[g]? = some (.cells cs t fr))
    (hu : P.underlying ty = some (.struct fs)) (hi : (P.info? ty).map (·.size) = some cs.size) :
    (results fn tmps).run P w = .ok (.tuple #[.agg cs, tmps.getD u undef, tmps.getD v undef]) w := by
  have hp' : tmps[p]?.getD undef = .pointer (some ⟨g, 0, none⟩) := by simpa using hp
  simp [results, h, hp', asAddr, run_loadVar_row w g t ty cs fr _ hg hu rfl hi]
theorem next_out {cs : Array Value} (hc : cs.size = 2) {R : Ending → World → Prop} {a : Act} {w : World} {g : Nat} (h2 : a.tmps.getD 2 undef = .pointer (some ⟨g, 0, none⟩)) (hd : a.defers = []) (hg : Blk w g 25 cs)
    (hR : R (.returned (.tuple #[.agg cs, a.tmps.getD 3 undef, a.tmps.getD 4 undef])) w) : bodyPost Try.prog Try.f8 R .ret a w :=
  bodyPost_ret (results_cell2 (fn := Try.f8) rfl a.tmps Try.prog w g 25 cs (0, 0) _ h2 hg Try.underlying25 (by rw [hc]; rfl)) hd hR
set_option maxHeartbeats 400000 in
theorem next_short (A : Option Addr) (len cap : Nat) (w : World) (h : len < 3) :
    Calls Try.prog 8 #[.slice A len cap] w fun e w' => e = .returned (.tuple #[emp, .int .i64 0, .int .i64 14]) ∧ Below w.heap.size w w' := by
  go_enter Try.func8, Try.ntmps8
  go_wp2
  (try simp only [Exit.inBlock, Exit.then])
  refine next_out (cs := #[.int .i64 0, .string ⟨#[]⟩]) (g := w.heap.size) rfl rfl rfl ?_ ⟨rfl, ?_⟩
  · exact Blk.new _ _ _
  · exact (Below.refl _ _).alloc (Nat.le_refl _) _
theorem box_set {W : World} {g : Nat} {t : TypeId} {x y : Value} (h : Blk W g t #[x, y]) (u v : Value) : Blk ((W.setCell ⟨g, 0, none⟩ u).setCell ⟨g, 1, none⟩ v) g t #[u, v] := (h.set_ 0 u).set_ 1 v
theorem box_below {W w : World} {B : Nat} {g : Nat} (h : Below B w W) (hg : B ≤ g) (u v : Value) : Below B w ((W.setCell ⟨g, 0, none⟩ u).setCell ⟨g, 1, none⟩ v) := (h.setCell (p := ⟨g, 0, none⟩) hg u).setCell (p := ⟨g, 1, none⟩) hg v
def hd3 (a b c : UInt8) : Int := (a.toNat : Int) * 65536 + (b.toNat : Int) * 256 + (c.toNat : Int)
theorem or_shift (a b c : UInt8) : bits .or .i64 (bits .or .i64 (wrap64 (wrap64 (a.toNat : Int) * 65536)) (wrap64 (wrap64 (b.toNat : Int) * 256))) (wrap64 (c.toNat : Int)) = hd3 a b c := by
  have ha := a.toNat_lt
  have hb := b.toNat_lt
  have hc := c.toNat_lt
  rw [IntWalk.wrap64_in (a.toNat : Int) (by omega), IntWalk.wrap64_in (b.toNat : Int) (by omega), IntWalk.wrap64_in (c.toNat : Int) (by omega), IntWalk.wrap64_in _ (by omega), IntWalk.wrap64_in _ (by omega)]
  have e1 := or_join 16 ((a.toNat : Int) * 65536) ((b.toNat : Int) * 256) (by omega) (by omega) (by omega) (by omega) (by omega) (by omega)
  rw [e1]
  exact or_join 8 _ _ (by omega) (by omega) (by omega) (by omega) (by omega) (by omega)
set_option maxHeartbeats 400000 in
theorem next_head (b off len cap : Nat) (w : World) (x y z : UInt8) (h : ¬ len < 3) (hl : len ≤ maxLen) (h0 : w.cell? ⟨b, off, none⟩ = some (.int .u8 x.toNat)) (h1 : w.cell? ⟨b, off + 1, none⟩ = some (.int .u8 y.toNat)) (h2 : w.cell? ⟨b, off + 2, none⟩ = some (.int .u8 z.toNat))
    (hb : b < w.heap.size) (hm : ¬ hd3 x y z ≤ 20000) :
    Calls Try.prog 8 #[.slice (some ⟨b, off, none⟩) len cap] w fun e w' => e = .returned (.tuple #[emp, .int .i64 0, .int .i64 2]) ∧ Below w.heap.size w w' := by
  have HO := Lib.hid (or_shift x y z)
  go_enter Try.func8, Try.ntmps8
  go_wp2
  go_quiet (fail)
  simp only [HO.out]
  go_wp2
  (try simp only [Exit.inBlock, Exit.then])
  refine next_out (cs := #[.int .i64 0, .string ⟨#[]⟩]) (g := w.heap.size) rfl rfl rfl ?_ ⟨rfl, ?_⟩
  · exact box_set ((Blk.new _ _ _).drewN _) _ _
  · exact box_below (below_drewN ((Below.refl _ _).alloc (Nat.le_refl _) _) _) (Nat.le_refl _) _ _
set_option maxHeartbeats 400000 in
theorem next_wait (b off len cap : Nat) (w : World) (x y z : UInt8) (h : ¬ len < 3) (hl : len ≤ maxLen) (h0 : w.cell? ⟨b, off, none⟩ = some (.int .u8 x.toNat)) (h1 : w.cell? ⟨b, off + 1, none⟩ = some (.int .u8 y.toNat)) (h2 : w.cell? ⟨b, off + 2, none⟩ = some (.int .u8 z.toNat))
    (hb : b < w.heap.size) (hm : hd3 x y z ≤ 20000) (hw : (len : Int) < 4 + hd3 x y z + 2) :
    Calls Try.prog 8 #[.slice (some ⟨b, off, none⟩) len cap] w fun e w' => e = .returned (.tuple #[emp, .int .i64 0, .int .i64 14]) ∧ Below w.heap.size w w' := by
  have HO := Lib.hid (or_shift x y z)
  have hp : 0 ≤ hd3 x y z := by unfold hd3; omega
  go_enter Try.func8, Try.ntmps8
  go_wp2
  go_quiet (fail)
  simp only [HO.out]
  go_wp2
  (try simp only [Exit.inBlock, Exit.then])
  refine next_out (cs := #[.int .i64 0, .string ⟨#[]⟩]) (g := w.heap.size) rfl rfl rfl ?_ ⟨rfl, ?_⟩
  · exact box_set ((Blk.new _ _ _).drewN _) _ _
  · exact box_below (below_drewN ((Below.refl _ _).alloc (Nat.le_refl _) _) _) (Nat.le_refl _) _ _
theorem sub_bytes {W : World} {b off len cap : Nat} {l : List UInt8} (hc : ∀ j u, l[j]? = some u → W.cell? ⟨b, off + j, none⟩ = some (.int .u8 (u.toNat : Int))) (hl : l.length = len) :
    (convert 22 9 (.slice (some ⟨b, off, none⟩) len cap)).run Try.prog W = .ok (.string ⟨l.toArray⟩) W := by
  subst hl
  exact run_convert_bytes_back _ 22 9 5 _ cap l Try.underlying22 Try.underlying5 Try.underlying9 (fun j hj => by rw [add_plain]; exact hc j _ (List.getElem?_eq_getElem hj))
end Go.Proofs.Ytcopdhgmbflcoaa
