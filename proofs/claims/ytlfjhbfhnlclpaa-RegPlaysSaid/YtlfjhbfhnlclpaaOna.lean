/- Trees in memory (values: Int): what stands where; size, join. -/
import Derived.Test.YtlfjhbfhnlclpaaOt
import Derived.Test.YtlfjhbfhnlclpaaSlice
import Derived.Test.YtlfjhbfhnlclpaaProg
import Derived.WalkKit
import Derived.Deep.Upon
import Derived.Lib.Hide
import Derived.KernelRfl
import Derived.OwnWalk
import Derived.BigQuiet
import Derived.RegionTactic
import Derived.Deep.QuietTactic
import Derived.Deep.RegionWith
import Derived.Laws.Rows
import Derived.Deep.RegionHeld3
import Derived.Deep.DrawnRows
import Derived.Laws.Cover1
namespace Go.Proofs.Ytlfjhbfhnlclpaa.ON
open Go.RowKit
open Go.Lib
set_option linter.unusedVariables false
set_option linter.unusedSimpArgs false
set_option maxRecDepth 100000
abbrev T := Tr (Int)
def ncs (k : ByteArray) (v : Int) (s : Int) (pl pr : Option Addr) : Array Value := #[.string k, .int .i64 v, .int .i64 s, .pointer pl, .pointer pr]
def IsT (w : World) : T → Option Addr → Prop
  | .nil, p => p = none
  | .node k v l r, p => ∃ b pl pr, p = some ⟨b, 0, none⟩ ∧ Blk w b 65 (ncs k v ((l.size + 1 + r.size : Nat) : Int) pl pr) ∧ IsT w l pl ∧ IsT w r pr
/-- Blocks of nodes are as they were. -/
def KeepN (w w' : World) : Prop := ∀ b cs, Blk w b 65 cs → Blk w' b 65 cs
section
variable {w w' w2 : World} {p : Option Addr}
theorem KeepN.refl (w : World) : KeepN w w := fun _ _ h => h
theorem KeepN.trans (h : KeepN w w') (k : KeepN w' w2) : KeepN w w2 := fun b cs x => k b cs (h b cs x)
theorem KeepN.drew (w : World) : KeepN w w.drew := fun _ _ h => h
theorem KeepN.drew2 (w : World) : KeepN w w.drew.drew := fun _ _ h => h
theorem KeepN.of (h : Below w.heap.size w w') : KeepN w w' := fun b cs x => (h.block b x.lt).trans x
/-- A store into a block of another type. -/
theorem KeepN.set {g : Nat} {t : TypeId} {cs : Array Value} (h : Blk w g t cs) (ht : t ≠ 65) (i : Nat) (u : Value) : KeepN w (w.setCell ⟨g, i, none⟩ u) := fun b cs2 x => x.far (p := ⟨g, i, none⟩) (fun e => by
  have e : b = g := e
  subst e
  unfold Blk at h x
  rw [h] at x
  cases x
  exact ht rfl) u
theorem IsT.keep : ∀ {t : T} {p : Option Addr}, IsT w t p → KeepN w w' → IsT w' t p
  | .nil, p, h, _ => h
  | .node k v l r, p, ⟨b, pl, pr, h0, h1, h2, h3⟩, hk => ⟨b, pl, pr, h0, hk _ _ h1, IsT.keep h2 hk, IsT.keep h3 hk⟩
theorem IsT.below {t : T} (h : IsT w t p) (hb : Below w.heap.size w w') : IsT w' t p := h.keep (KeepN.of hb)
end
theorem size_any {w : World} {t : T} {p : Option Addr} (h : IsT w t p) : Calls Try.prog 38 #[.pointer p] w fun e w' => e = .returned (.int .i64 (t.size : Int)) ∧ w' = w := by
  cases t with
  | nil =>
    obtain rfl : p = none := h
    go_enter Try.func38, Try.ntmps38
    go_wp2
    go_ret
    exact ⟨rfl, rfl⟩
  | node k v l r =>
    obtain ⟨b, pl, pr, rfl, hb, _, _⟩ := h
    have c2 := hb.cell 2
    have hcs : (ncs k v ((l.size + 1 + r.size : Nat) : Int) pl pr)[2]? = some (.int .i64 ((l.size + 1 + r.size : Nat) : Int)) := rfl
    rw [hcs] at c2
    show Calls Try.prog 38 _ w fun e w' => e = .returned (.int .i64 ((l.size + 1 + r.size : Nat) : Int)) ∧ w' = w
    obtain ⟨n, hn⟩ : ∃ n : Nat, l.size + 1 + r.size = n := ⟨_, rfl⟩
    rw [hn] at c2 ⊢
    clear hb hcs hn
    go_enter Try.func38, Try.ntmps38
    go_wp2
    go_ret
    exact ⟨rfl, rfl⟩
/-- A node's key and value stand at p. -/
def Nd (w : World) (b : Nat) (k : ByteArray) (v : Int) : Prop := ∃ s x y, Blk w b 65 #[.string k, .int .i64 v, s, x, y]
theorem Nd.keep {w w' : World} {b : Nat} {k : ByteArray} {v : Int} (h : Nd w b k v) (hk : KeepN w w') : Nd w' b k v := by
  obtain ⟨s, x, y, h⟩ := h
  exact ⟨s, x, y, hk _ _ h⟩
set_option maxHeartbeats 4000000 in
theorem join_any {w : World} {l r : T} {pl pr : Option Addr} {b : Nat} {k : ByteArray} {v : Int} (hl : IsT w l pl) (hn : Nd w b k v) (hr : IsT w r pr) (hs : l.size + r.size ≤ 1000000) :
    Calls Try.prog 67 #[.pointer pl, .pointer (some ⟨b, 0, none⟩), .pointer pr] w fun e w' => ∃ p, e = .returned (.pointer p) ∧ IsT w' (.node k v l r) p ∧ Below w.heap.size w w' := by
  have HS1 := Lib.hid (size_any (hl.keep (KeepN.drew w)))
  have HS2 := Lib.hid (size_any (hr.keep (KeepN.drew w)))
  obtain ⟨s, x, y, hb⟩ := hn
  have c0 := hb.cell 0
  have c1 := hb.cell 1
  have HL := Lib.hid hl
  have HR := Lib.hid hr
  obtain ⟨m, hm⟩ : ∃ m, l.size = m := ⟨_, rfl⟩
  obtain ⟨n, hn⟩ : ∃ n, r.size = n := ⟨_, rfl⟩
  have HM := Lib.hid hm
  have HN := Lib.hid hn
  rw [hm, hn] at hs
  rw [hm] at HS1
  rw [hn] at HS2
  have i1 : IntKind.i64.wrap ((m : Int) + 1) = (m : Int) + 1 := IntWalk.i64_in _ (by omega)
  have i2 : IntKind.i64.wrap ((m : Int) + 1 + (n : Int)) = (m : Int) + 1 + (n : Int) := IntWalk.i64_in _ (by omega)
  clear hl hr hm hn
  go_enter Try.func67, Try.ntmps67
  go_wp2_with fail
  have c0d : w.drew.cell? ⟨b, 0, none⟩ = some (.string k) := c0
  have c1d : w.drew.cell? ⟨b, 1, none⟩ = some (.int .i64 v) := (hb.drew).cell 1
  go_region_held3 (fun w' => w'.cell? ⟨b, 0, none⟩ = some (.string k) ∧ w'.cell? ⟨b, 1, none⟩ = some (.int .i64 v)) (first | exact ⟨c0d, c1d⟩ | exact ⟨((hb.alloc _).drew).cell 0, ((hb.alloc _).drew).cell 1⟩) (first
    | (go_at_call 38
       (with_reducible refine HS1.out.mono ?_)
       clear HS1
       rintro _ wz ⟨rfl, hw0⟩
       replace hw0 := hw0.symm
       subst hw0)
    | (go_at_call 38
       (with_reducible refine HS2.out.mono ?_)
       clear HS2
       rintro _ wz ⟨rfl, hw0⟩
       replace hw0 := hw0.symm
       subst hw0)
    | fail)
  all_goals (
    go_wp2
    go_ret
    have hsz : ((l.size + 1 + r.size : Nat) : Int) = (m : Int) + 1 + (n : Int) := by rw [HM.out, HN.out]; omega
    refine ⟨_, rfl, ⟨w.heap.size, pl, pr, rfl, ?_, HL.out.keep ?_, HR.out.keep ?_⟩, ?_⟩
    · rw [hsz]
      exact (Blk.new w 65 _).drew
    · exact KeepN.of (((Below.refl _ w).alloc (Nat.le_refl _) _).drew)
    · exact KeepN.of (((Below.refl _ w).alloc (Nat.le_refl _) _).drew)
    · exact ((Below.refl _ w).alloc (Nat.le_refl _) _).drew)
end Go.Proofs.Ytlfjhbfhnlclpaa.ON
