/- The reference's Apply, all ways. -/
import Derived.Test.YthcjbljkokflgaaZbd
import Derived.Test.YthcjbljkokflgaaZag
import Derived.Test.YthcjbljkokflgaaZak
import Derived.Test.YthcjbljkokflgaaZal
import Derived.Test.YthcjbljkokflgaaZba
import Derived.Test.YthcjbljkokflgaaZam
import Derived.Test.YthcjbljkokflgaaZan
import Derived.Test.YthcjbljkokflgaaZao
import Derived.Test.YthcjbljkokflgaaZap
import Derived.Test.YthcjbljkokflgaaZaq
import Derived.Test.YthcjbljkokflgaaZar
set_option linter.unnecessarySimpa false
/- slices.SortStableFunc of items by version: over a row that a call owns. -/
namespace Go.Proofs.Ythcjbljkokflgaa
open Go.RowKit
open Go.Lib hiding intOf
open Go.Sort Go.Proofs
set_option linter.unusedVariables false
set_option linter.unusedSimpArgs false
set_option maxRecDepth 1000000
/-- What cmp.Compare answers. -/
def cmpI (a b : Int) : Int := if a < b then -1 else if b < a then 1 else 0
def cfI (x y : It) : Int := cmpI x.v y.v
theorem cfI_lt (x y : It) : cfI x y < 0 ↔ x.v < y.v := by
  unfold cfI cmpI
  by_cases h : x.v < y.v
  · rw [if_pos h]; exact ⟨fun _ => h, fun _ => by decide⟩
  · rw [if_neg h]
    by_cases g : y.v < x.v
    · rw [if_pos g]; exact ⟨fun h => absurd h (by decide), fun k => absurd k h⟩
    · rw [if_neg g]; exact ⟨fun h => absurd h (by decide), fun k => absurd k h⟩
set_option maxHeartbeats 2000000 in
theorem nan_any (a : Int) (w : World) : Calls Try.prog 71 #[.int .i64 a] w fun e w' => e = .returned (.bool false) ∧ w' = w := by
  have d : (a != a) = false := by simp
  go_enter Try.func71, Try.ntmps71
  go_wp2
  go_ret
  exact ⟨rfl, rfl⟩
set_option maxHeartbeats 4000000 in
theorem compare_any (a b : Int) (w : World) : Calls Try.prog 54 #[.int .i64 a, .int .i64 b] w fun e w' => e = .returned (.int .i64 (cmpI a b)) ∧ GrI w w' := by
  obtain ⟨r, hr⟩ : ∃ r, cmpI a b = r := ⟨_, rfl⟩
  rw [hr]
  have HR := Lib.hid (show r = if a < b then -1 else if b < a then 1 else 0 by rw [← hr]; rfl)
  clear hr
  have hA : ∀ W, Calls Try.prog 71 #[.int .i64 a] W fun e w' => e = .returned (.bool false) ∧ w' = W := fun W => nan_any a W
  have hB : ∀ W, Calls Try.prog 71 #[.int .i64 b] W fun e w' => e = .returned (.bool false) ∧ w' = W := fun W => nan_any b W
  by_cases h : a < b
  · have H0 := Lib.hid (show r = -1 by rw [HR.out, if_pos h])
    go_enter Try.func54, Try.ntmps54
    go_wp2_with fail
    refine (hA _).mono ?_
    rintro _ _ ⟨rfl, rfl⟩
    go_wp2_with fail
    refine (hB _).mono ?_
    rintro _ _ ⟨rfl, rfl⟩
    go_wp2
    go_ret
    exact ⟨by rw [H0.out]; rfl, GrI.refl _⟩
  · by_cases g : b < a
    · have H0 := Lib.hid (show r = 1 by rw [HR.out, if_neg h, if_pos g])
      go_enter Try.func54, Try.ntmps54
      go_wp2_with fail
      refine (hA _).mono ?_
      rintro _ _ ⟨rfl, rfl⟩
      go_wp2_with fail
      refine (hB _).mono ?_
      rintro _ _ ⟨rfl, rfl⟩
      go_wp2
      go_ret
      exact ⟨by rw [H0.out]; rfl, GrI.refl _⟩
    · have H0 := Lib.hid (show r = 0 by rw [HR.out, if_neg h, if_neg g])
      go_enter Try.func54, Try.ntmps54
      go_wp2_with fail
      refine (hA _).mono ?_
      rintro _ _ ⟨rfl, rfl⟩
      go_wp2_with fail
      refine (hB _).mono ?_
      rintro _ _ ⟨rfl, rfl⟩
      go_wp2
      go_ret
      exact ⟨by rw [H0.out]; rfl, GrI.refl _⟩
set_option maxHeartbeats 4000000 in
theorem since1_any (x y : It) (w : World) : Calls Try.prog 53 #[.agg (itC x).toArray, .agg (itC y).toArray] w fun e w' => e = .returned (.int .i64 (cfI x y)) ∧ GrI w w' := by
  obtain ⟨u, v, g, c⟩ := x
  obtain ⟨u2, v2, g2, c2⟩ := y
  have HC := Lib.hid (fun W => compare_any v v2 W)
  show Calls Try.prog 53 #[.agg #[.string u, .int .i64 v, .bool g, .string c], .agg #[.string u2, .int .i64 v2, .bool g2, .string c2]] w _
  obtain ⟨wA, hwA⟩ : ∃ wA, (w.alloc (.cells #[.string u, .int .i64 v, .bool g, .string c] 62)).alloc (.cells #[.string u2, .int .i64 v2, .bool g2, .string c2] 62) = wA := ⟨_, rfl⟩
  obtain ⟨n, hn⟩ : ∃ n, w.heap.size = n := ⟨_, rfl⟩
  have HB1 := Lib.hid (show Blk wA n 62 #[.string u, .int .i64 v, .bool g, .string c] from hwA ▸ hn ▸ (Blk.new w _ _).alloc _)
  have HB2 := Lib.hid (show Blk wA (n + 1) 62 #[.string u2, .int .i64 v2, .bool g2, .string c2] from by
    have := Blk.new (w.alloc (.cells #[.string u, .int .i64 v, .bool g, .string c] 62)) 62 #[.string u2, .int .i64 v2, .bool g2, .string c2]
    rw [World.size_alloc, hwA, hn] at this
    exact this)
  have HW := Lib.hid (show GrI w wA from hwA ▸ ((GrI.refl w).alloc _).alloc _)
  have HN := Lib.hid hn
  have a1 : wA.cell? ⟨n, 1, none⟩ = some (.int .i64 v) := HB1.out.cell 1
  have b1 : wA.cell? ⟨n + 1, 1, none⟩ = some (.int .i64 v2) := HB2.out.cell 1
  obtain ⟨r, hr⟩ : ∃ r, cmpI v v2 = r := ⟨_, rfl⟩
  rw [hr] at HC
  show Calls Try.prog _ _ _ fun e w' => e = .returned (.int .i64 (cmpI v v2)) ∧ _
  rw [hr]
  clear hr
  go_enter Try.func53, Try.ntmps53
  go_wp2_with fail
  refine (HC.out _).mono ?_
  rintro _ w1 ⟨rfl, hg⟩
  have HW1 := Lib.hid (HW.out.trans hg)
  clear hg
  go_wp2
  go_ret
  exact ⟨rfl, HW1.out⟩
theorem itC_get (f : It) (c : Nat) (h : c < 4) : (itC f)[c]? = some (itC f)[c]! := by
  match c, h with
  | 0, _ => rfl
  | 1, _ => rfl
  | 2, _ => rfl
  | 3, _ => rfl
theorem holds_its {w : World} {g : Nat} {cur : Array Value} {L : List It} (e3 : w.heap[g]? = some (.cells cur 62 (0, 0))) (e7 : cur.toList.take (L.length * 4) = itsC L) : HoldsK itC 4 w g 0 L.toArray := by
  have hb : Blk w g 62 cur := e3
  intro t ht
  rw [Nat.zero_add]
  refine ⟨?_, hb.frozen t⟩
  have ht2 : t < L.length * 4 := by simpa using ht
  have h3 : t / 4 < L.length := by omega
  have hc : cur[t]? = (itsC L)[t]? := by rw [← e7, List.getElem?_take_of_lt (by omega), Array.getElem?_toList]
  rw [hb.cell t, hc, itsC_at, get_flatK _ _ _ _ (by simpa using ht2), getElem!_pos L.toArray (t / 4) (by simpa using h3), List.getElem?_eq_getElem h3]
  simp only [List.getElem_toArray]
  exact itC_get _ _ (Nat.mod_lt _ (by decide))
theorem its_holds {w : World} {g : Nat} {cur : Array Value} {d : Array It} (e3 : w.heap[g]? = some (.cells cur 62 (0, 0))) (hH : HoldsK itC 4 w g 0 d) : cur.toList.take (d.size * 4) = itsC d.toList := by
  have hb : Blk w g 62 cur := e3
  refine List.ext_getElem? fun t => ?_
  by_cases ht : t < d.size * 4
  · have h3 : t / 4 < d.size := by omega
    have h := (hH t (by rw [size_flatK]; exact ht)).1
    rw [Nat.zero_add, hb.cell t, get_flatK _ _ _ _ ht, getElem!_pos d (t / 4) h3] at h
    rw [List.getElem?_take_of_lt ht, Array.getElem?_toList, h, itsC_at, Array.getElem?_toList, Array.getElem?_eq_getElem h3]
    exact (itC_get _ _ (Nat.mod_lt _ (by decide))).symm
  · rw [List.getElem?_take_eq_none (by omega), List.getElem?_eq_none_iff.2 (by rw [itsC_len, Array.length_toList]; omega)]
theorem sortI_block (w : World) (g m : Nat) (dk : Array It) (os : Array Obj) {cur : Array Value} (h : w.heap[g]? = some (.cells cur 62 (0, 0))) : ∃ cur', (sortWorldK itC 4 w g 0 m dk os).heap[g]? = some (.cells cur' 62 (0, 0)) ∧ cur'.size = cur.size := by
  have hg : g < w.heap.size := (Array.getElem?_eq_some_iff.1 h).1
  refine ⟨putCells id 0 (flatK itC 4 dk) cur, ?_, by simp [putCells]⟩
  unfold sortWorldK
  rw [heap_grow_old _ os (by rw [size_putRowK]; exact hg)]
  unfold putRowK putRow mapBlock
  simp only [Array.getElem?_modify, if_pos]
  show Option.map _ (w.heap[g]?) = _
  rw [h]
  rfl
theorem sortI_grown (w : World) (g m : Nat) (dk : Array It) (os : Array Obj) : w.grownBy (sortWorldK itC 4 w g 0 m dk os) (some g) := by
  unfold sortWorldK putRowK
  refine ⟨rfl, rfl, rfl, ?_, fun j hj hne => ?_⟩
  · simp
  · have h1 : (putRow id (Sort.ahead w m) g 0 (flatK itC 4 dk)).heap[j]? = w.heap[j]? := by
      unfold putRow mapBlock
      have hne' : ¬ g = j := fun e => hne (by rw [e])
      simp only [Array.getElem?_modify, if_neg hne']
      rfl
    rw [heap_grow_old _ os (by simpa using hj)]
    exact h1
theorem cmp_laysI (g size : Nat) (w : World) : CmpLays Try.prog 53 #[] itC 4 cfI g 0 size w := by
  intro m os dk _ x y
  refine (since1_any x y _).mono ?_
  rintro e w' ⟨rfl, hg⟩
  exact ⟨rfl, hg⟩
theorem insI_none (p : Option Addr) (cap : Nat) (fv : Value) (w : World) : Calls Try.prog 83 #[.slice p 0 cap, .int .i64 0, .int .i64 0, fv] w fun e w' => e = .returned (.tuple #[]) ∧ w' = w := by
  go_enter Try.func83, Try.ntmps83
  go_wp2
  refine wp_loop_rounds 1 ?_
  rw [rounds_succ]
  go_wp2
  go_end0
  exact ⟨rfl, rfl⟩
theorem stableI_none (p : Option Addr) (cap : Nat) (fv : Value) (w : World) : Calls Try.prog 70 #[.slice p 0 cap, .int .i64 0, fv] w fun e w' => e = .returned (.tuple #[]) ∧ w' = w := by
  go_enter Try.func70, Try.ntmps70
  go_wp2
  refine wp_loop_rounds 1 ?_
  rw [rounds_succ]
  go_wp2_with fail
  refine (insI_none _ _ _ _).mono ?_
  rintro e w1 ⟨rfl, hw⟩
  replace hw := hw.symm
  subst hw
  go_wp2
  refine wp_loop_rounds 1 ?_
  rw [rounds_succ]
  go_wp2
  go_end0
  exact ⟨rfl, rfl⟩
set_option maxHeartbeats 4000000 in
/-- A row of items that a call owns, sorted by version; alike ones stay as they were. -/
theorem sortI_own {w : World} {base n : Nat} {v : Value} {xs : List It} (Rl : It → It → Prop) (h : w.ownsRow base 62 4 v n (itsC xs)) (hl : xs.length = n) (hn : n < 100000000) (hb : base ≤ w.heap.size) (hp : xs.Pairwise Rl) :
    Calls Try.prog 52 #[v, .func (.func 53) #[] #[]] w fun e w' => e = .returned (.tuple #[]) ∧ ∃ ys : List It, ys.Perm xs ∧ Ris It.v Rl ys ∧ w'.ownsRow base 62 4 v n (itsC ys) ∧ Below base w w' := by
  obtain ⟨h0, ⟨rfl, hz⟩ | ⟨g, cap, cur, rfl, e2, e3, e4, e5, e6, e7⟩⟩ := h
  · subst hz
    have hx : xs = [] := List.length_eq_zero_iff.1 hl
    subst hx
    have HS := Lib.hid (fun W => stableI_none none 0 (.func (.func 53) #[] #[]) W)
    have HQ : Aside (w.ownsRow base 62 4 (.slice none 0 0) 0 (itsC [])) := ⟨rfl, .inl ⟨rfl, rfl⟩⟩
    go_enter Try.func52, Try.ntmps52
    go_wp2_with fail
    refine (HS.out _).mono ?_
    rintro e w1 ⟨rfl, hw⟩
    replace hw := hw.symm
    subst hw
    go_wp2
    go_end0
    exact ⟨rfl, [], List.Perm.refl _, List.Pairwise.nil, HQ, Below.refl _ _⟩
  · have hg : g < w.heap.size := (Array.getElem?_eq_some_iff.1 e3).1
    have hH : HoldsK itC 4 w g 0 xs.toArray := holds_its e3 (by rw [hl]; exact e7)
    have R : RowK itC 4 w g 0 xs.toArray := ⟨fun _ => rfl, fun x v hv => by unfold itC at hv; simp at hv; rcases hv with rfl | rfl | rfl | rfl <;> rfl, hH, hg⟩
    have hst := stable_any bo_prog itC g 0 cap xs.toArray w R It.v Rl cfI cfI_lt 53 #[] (enters_of Try.func53 (by kernel_rfl) rfl) (cmp_laysI g _ w) (by simpa [hl] using hn) xs.toArray w rfl (SWK.start hH) xs (by simp) hp n (by simpa using hl)
    have HS := Lib.hid hst
    have HF : Aside (∀ W, SymQ It.v Rl itC 4 w g 0 xs.toArray [] [] xs (.returned (.tuple #[])) W → ∃ ys : List It, ys.Perm xs ∧ Ris It.v Rl ys ∧ W.ownsRow base 62 4 (.slice (some ⟨g, 0, none⟩) n cap) n (itsC ys) ∧ Below base w W) := by
      rintro W ⟨-, d', M, f1, f2, f3, f4, m, os, rfl⟩
      obtain ⟨cur', c1, c2⟩ := sortI_block w g m d' os e3
      have hgr := sortI_grown w g m d' os
      have hds : d'.size = n := by rw [f1]; simpa using hl
      have hM : d'.toList = M := by rw [f2]; simp
      have hH' := holdsK_sortWorldK_c itC 4 w g 0 xs.toArray d' m os hH hg f1
      refine ⟨M, f3, f4, ⟨?_, .inr ⟨g, cap, cur', rfl, e2, c1, e4, e5, by rw [c2]; exact e6, ?_⟩⟩, ⟨hgr.os, hgr.tape, hgr.output, hgr.size, fun j hj => hgr.block j (by omega) (fun e => by have := Option.some.inj e; omega)⟩⟩
      · rw [itsC_len, f3.length_eq, hl]
      · rw [← hds, its_holds c1 hH', hM]
    clear hst R hH hp e3 e7 h0
    go_enter Try.func52, Try.ntmps52
    go_wp2_with fail
    refine HS.out.mono ?_
    rintro e w1 h9
    obtain ⟨rfl, -⟩ := id h9
    have HX : Aside _ := HF _ h9
    clear h9 HF
    go_wp2
    go_end0
    exact ⟨rfl, HX⟩
end Go.Proofs.Ythcjbljkokflgaa
/- The collection: Since. -/
namespace Go.Proofs.Ythcjbljkokflgaa
open Go.RowKit
open Go.Lib
open Go.Shelf
set_option linter.unusedVariables false
set_option linter.unusedSimpArgs false
set_option maxRecDepth 100000
/-- By UID. -/
def Ul (x y : It) : Prop := klt x.u y.u = true
theorem ul_live {L : LK} (h : Srt L) : (itsK L).Pairwise Ul := by
  unfold itsK
  exact List.pairwise_map.2 (h.imp fun h => h)
theorem chgI_u (L : LK) (p : ByteArray × Int) : (chgI L p).u = p.1 := by unfold chgI; split <;> rfl
theorem ul_chg (L : LK) {M : List (ByteArray × Int)} (h : Srt M) : (chgL L M).Pairwise Ul := by
  unfold chgL
  refine List.pairwise_map.2 (h.imp fun h => ?_)
  unfold Ul
  rw [chgI_u, chgI_u]
  exact h
/-- What Since tells, by UID. -/
def sin0 (c : Cs) (T : Int) : List It := if T = 0 then itsK c.L else chgL c.L (lastL T (ord c.F c.ring).reverse)
/-- What Since tells: by version, then by UID. -/
def Sin (c : Cs) (T : Int) (ys : List It) : Prop := ys.Perm (sin0 c T) ∧ Ris It.v Ul ys
/-- How large a collection may be, for these walks. -/
structure FitC (c : Cs) : Prop where
  hF : 0 < c.ring.length → c.F < c.ring.length
  hr : c.ring.length ≤ 40000
  hl : c.L.length ≤ 1000000
  kr : ∀ q ∈ c.ring, q.2.size ≤ 1000000
  kl : ∀ q ∈ c.L, q.1.size ≤ 1000000
set_option maxHeartbeats 8000000 in
theorem since_bad {w : World} {B0 g : Nat} {c : Cs} (hC : Cl w B0 g c) {T : Int} (h0 : T ≠ 0) (h1 : T < c.horizon ∨ c.latest < T) :
    Calls Try.prog 28 #[.pointer (some ⟨g, 0, none⟩), .int .i64 T] w fun e w' => e = .returned (.tuple #[.slice none 0 0, .int .i64 8]) ∧ w' = w := by
  obtain ⟨m, R, hbx, -, -, -, -⟩ := hC
  have c4 := hbx.cell 4
  have c5 := hbx.cell 5
  simp only [List.getElem?_toArray, List.getElem?_cons_zero, List.getElem?_cons_succ] at c4 c5
  have d : (T == 0) = false := by simpa using h0
  clear hbx
  by_cases h2 : T < c.horizon
  · go_enter Try.func28, Try.ntmps28
    go_wp2
    go_ret2
    exact ⟨rfl, rfl⟩
  · have h3 : c.latest < T := by omega
    go_enter Try.func28, Try.ntmps28
    go_wp2
    go_ret2
    exact ⟨rfl, rfl⟩
set_option maxHeartbeats 8000000 in
theorem since_live {w : World} {B0 g : Nat} {c : Cs} (hC : Cl w B0 g c) (hS : Srt c.L) (hf : FitC c) :
    Calls Try.prog 28 #[.pointer (some ⟨g, 0, none⟩), .int .i64 0] w fun e w' => ∃ U ys, Sin c 0 ys ∧ e = .returned (.tuple #[U, .int .i64 0]) ∧ w'.ownsRow w.heap.size 62 4 U ys.length (itsC ys) ∧ Below w.heap.size w w' := by
  have HLV := Lib.hid (live_any hC hf.hl hf.kl)
  have HSO := Lib.hid (fun (W : World) (v : Value) (hb : w.heap.size ≤ W.heap.size) (h : W.ownsRow w.heap.size 62 4 v c.L.length (itsC (itsK c.L))) => sortI_own Ul h (itsK_len _) (by have := hf.hl; omega) hb (ul_live hS))
  clear hC hf hS
  go_enter Try.func28, Try.ntmps28
  go_wp2_with fail
  refine HLV.out.mono ?_
  rintro _ w1 ⟨U, rfl, h1, h2⟩
  have HO1 := Lib.hid h1
  have HB1 := Lib.hid h2
  clear h1 h2
  go_wp2_with fail
  refine (HSO.out _ U HB1.out.size HO1.out).mono ?_
  rintro _ w2 ⟨rfl, ys, h1, h2, h3, h4⟩
  have HY := Lib.hid (show Sin c 0 ys ∧ w2.ownsRow w.heap.size 62 4 U ys.length (itsC ys) from ⟨⟨by unfold sin0; rw [if_pos rfl]; exact h1, h2⟩, by rw [h1.length_eq, itsK_len]; exact h3⟩)
  have HB2 := Lib.hid (HB1.out.trans h4)
  clear h1 h2 h3 h4
  go_wp2
  go_ret2
  exact ⟨U, ys, HY.out.1, rfl, HY.out.2, HB2.out⟩
set_option maxHeartbeats 8000000 in
theorem since_chg {w : World} {B0 g : Nat} {c : Cs} (hC : Cl w B0 g c) (hf : FitC c) {T : Int} (h0 : T ≠ 0) (h1 : c.horizon ≤ T) (h2 : T ≤ c.latest) :
    Calls Try.prog 28 #[.pointer (some ⟨g, 0, none⟩), .int .i64 T] w fun e w' => ∃ U ys, Sin c T ys ∧ e = .returned (.tuple #[U, .int .i64 0]) ∧ w'.ownsRow w.heap.size 62 4 U ys.length (itsC ys) ∧ Below w.heap.size w w' := by
  obtain ⟨M, hM⟩ : ∃ M, lastL T (ord c.F c.ring).reverse = M := ⟨_, rfl⟩
  have HML := Lib.hid (show M.length < 100000000 by
    rw [← hM]
    unfold lastL
    exact Nat.lt_of_le_of_lt (Nat.le_trans (accL_len _) (Nat.le_trans (List.takeWhile_sublist _).length_le (by rw [List.length_reverse, ord_len]; exact hf.hr))) (by omega))
  have HMS := Lib.hid (show Srt M from hM ▸ lastL_srt _ _)
  have HCH := Lib.hid (changed_any hC hf.hF hf.hr hf.kr T)
  rw [hM] at HCH
  have HMM := Lib.hid (show sin0 c T = chgL c.L M by unfold sin0; rw [if_neg h0, hM])
  have HSO := Lib.hid (fun (W : World) (v : Value) (hb : w.heap.size ≤ W.heap.size) (h : W.ownsRow w.heap.size 62 4 v M.length (itsC (chgL c.L M))) => sortI_own Ul h (chgL_len _ _) HML.out hb (ul_chg c.L HMS.out))
  obtain ⟨m, R, hbx, -, -, -, -⟩ := hC
  have c4 := hbx.cell 4
  have c5 := hbx.cell 5
  simp only [List.getElem?_toArray, List.getElem?_cons_zero, List.getElem?_cons_succ] at c4 c5
  have d : (T == 0) = false := by simpa using h0
  have d2 : ¬ T < c.horizon := by omega
  have d3 : ¬ c.latest < T := by omega
  clear hbx hf hM
  go_enter Try.func28, Try.ntmps28
  go_wp2_with fail
  refine HCH.out.mono ?_
  rintro _ w1 ⟨U, M', rfl, rfl, h1, h2⟩
  have HO1 := Lib.hid h1
  have HB1 := Lib.hid h2
  clear h1 h2
  go_wp2_with fail
  refine (HSO.out _ U HB1.out.size HO1.out).mono ?_
  rintro _ w2 ⟨rfl, ys, h1, h2, h3, h4⟩
  have HY := Lib.hid (show Sin c T ys ∧ w2.ownsRow w.heap.size 62 4 U ys.length (itsC ys) from ⟨⟨by rw [HMM.out]; exact h1, h2⟩, by rw [h1.length_eq, chgL_len]; exact h3⟩)
  have HB2 := Lib.hid (HB1.out.trans h4)
  clear h1 h2 h3 h4
  go_wp2
  go_ret2
  exact ⟨U, ys, HY.out.1, rfl, HY.out.2, HB2.out⟩
end Go.Proofs.Ythcjbljkokflgaa
/- The collection and the reference's, side by side: maths. -/
namespace Go.Proofs.Ythcjbljkokflgaa
open Go.RowKit
open Go.Lib
set_option linter.unusedVariables false
set_option linter.unusedSimpArgs false
set_option maxRecDepth 100000
theorem plc_lt1 {u : ByteArray} {p : ByteArray × (Int × ByteArray)} {L : LK} (h : klt p.1 u = true) : plc u (p :: L) = plc u L + 1 := by
  unfold plc
  rw [List.filter_cons_of_pos (by exact h)]; rfl
theorem plc_ge0 {u : ByteArray} {p : ByteArray × (Int × ByteArray)} {L : LK} (hs : Srt (p :: L)) (h : klt p.1 u = false) : plc u (p :: L) = 0 := by
  unfold plc
  rw [List.filter_eq_nil_iff.2]
  · rfl
  intro a ha e
  rcases List.mem_cons.1 ha with rfl | ha
  · rw [h] at e; cases e
  · have := klt_trans ((List.pairwise_cons.1 hs).1 a ha) e; rw [h] at this; cases this
theorem get_gt {u : ByteArray} {p : ByteArray × (Int × ByteArray)} {L : LK} (hs : Srt (p :: L)) (h : klt p.1 u = false) : getL u L = none := getL_none fun a ha e => by
  subst e
  have := (List.pairwise_cons.1 hs).1 a ha
  rw [h] at this; cases this
theorem rRow_put : ∀ {L : LK}, Srt L → ∀ uid card tok, rRow L false uid card tok = insL uid (tok, card) L
  | [], _, uid, card, tok => rfl
  | p :: L, hs, uid, card, tok => by
    by_cases h : klt p.1 uid = true
    · have ih := rRow_put (List.pairwise_cons.1 hs).2 uid card tok
      have hne : uid ≠ p.1 := fun e => by rw [e, klt_irr] at h; cases h
      unfold rRow at ih ⊢
      rw [plc_lt1 h, getL_cons, if_neg hne]
      conv => rhs; unfold insL
      rw [if_neg (show ¬ klt uid p.1 = true by rw [klt_asym h]; decide), if_neg hne, ← ih]
      cases (getL uid L).isSome <;> simp
    · have h2 : klt p.1 uid = false := by simpa using h
      unfold rRow
      rw [plc_ge0 hs h2, getL_cons]
      by_cases e : uid = p.1
      · rw [if_pos e]; unfold insL; rw [if_neg (show ¬ klt uid p.1 = true by rw [← e, klt_irr]; decide), if_pos e]; simp
      · rw [if_neg e, get_gt hs h2]; unfold insL; rw [if_pos ((klt_total e).resolve_right (by rw [h2]; decide))]; simp
theorem rRow_del : ∀ {L : LK}, Srt L → ∀ uid card tok, (getL uid L).isSome = true → rRow L true uid card tok = delL uid L
  | [], _, uid, card, tok, h => by cases h
  | p :: L, hs, uid, card, tok, hth => by
    by_cases h : klt p.1 uid = true
    · have hne : uid ≠ p.1 := fun e => by rw [e, klt_irr] at h; cases h
      rw [getL_cons, if_neg hne] at hth
      have ih := rRow_del (List.pairwise_cons.1 hs).2 uid card tok hth
      unfold rRow at ih ⊢
      rw [plc_lt1 h, getL_cons, if_neg hne]
      unfold delL at ih ⊢
      rw [List.filter_cons_of_pos (by simpa using fun e : p.1 = uid => hne e.symm), ← ih]
      rw [hth]
      simp
    · have h2 : klt p.1 uid = false := by simpa using h
      unfold rRow
      rw [plc_ge0 hs h2, getL_cons]
      by_cases e : uid = p.1
      · rw [if_pos e]
        unfold delL
        rw [List.filter_cons_of_neg (by simp [e])]
        simp only [Option.isSome_some, if_true, Nat.zero_add, List.drop_succ_cons, List.drop_zero, List.take_zero, List.nil_append]
        refine Eq.symm (List.filter_eq_self.2 fun a ha => ?_)
        have := (List.pairwise_cons.1 hs).1 a ha
        refine decide_eq_true fun e2 => ?_
        rw [e2, e, klt_irr] at this; cases this
      · rw [getL_cons, if_neg e, get_gt hs h2] at hth; cases hth
def oldN (o : Option (Int × ByteArray)) : Nat := (o.getD (0, .empty)).2.size
theorem oldS_N (o : Option (Int × ByteArray)) : oldS o = (oldN o : Int) := rfl
theorem bytes_ins : ∀ {L : LK}, Srt L → ∀ (u : ByteArray) (x : Int × ByteArray), bytesL (insL u x L) + oldN (getL u L) = bytesL L + x.2.size
  | [], _, u, x => by show x.2.size + 0 + 0 = 0 + x.2.size; omega
  | p :: L, hs, u, x => by
    unfold insL
    rw [getL_cons]
    by_cases h : klt u p.1 = true
    · rw [if_pos h, if_neg (fun e => by rw [e, klt_irr] at h; cases h), getL_none (fun a ha e => by have := klt_trans h ((List.pairwise_cons.1 hs).1 a ha); rw [e, klt_irr] at this; cases this)]
      show x.2.size + (p.2.2.size + bytesL L) + 0 = p.2.2.size + bytesL L + x.2.size
      omega
    · rw [if_neg h]
      by_cases e : u = p.1
      · rw [if_pos e, if_pos e]
        show x.2.size + bytesL L + p.2.2.size = p.2.2.size + bytesL L + x.2.size
        omega
      · rw [if_neg e, if_neg e]
        have := bytes_ins (List.pairwise_cons.1 hs).2 u x
        show p.2.2.size + bytesL (insL u x L) + oldN (getL u L) = p.2.2.size + bytesL L + x.2.size
        omega
theorem bytes_del : ∀ {L : LK}, Srt L → ∀ (u : ByteArray), bytesL (delL u L) + oldN (getL u L) = bytesL L
  | [], _, u => rfl
  | p :: L, hs, u => by
    rw [getL_cons]
    unfold delL
    by_cases e : u = p.1
    · rw [List.filter_cons_of_neg (by simp [e]), if_pos e]
      have : List.filter (fun q => decide (q.1 ≠ u)) L = L := List.filter_eq_self.2 fun a ha => by
        have := (List.pairwise_cons.1 hs).1 a ha
        refine decide_eq_true fun e2 => ?_
        rw [e2, e, klt_irr] at this; cases this
      rw [this]
      show bytesL L + p.2.2.size = p.2.2.size + bytesL L
      omega
    · rw [List.filter_cons_of_pos (by simpa using fun e2 : p.1 = u => e e2.symm), if_neg e]
      have := bytes_del (List.pairwise_cons.1 hs).2 u
      show p.2.2.size + bytesL (delL u L) + oldN (getL u L) = p.2.2.size + bytesL L
      omega
theorem ord_full {F : Nat} {l : List Chg} (hF : F < l.length) (x : Chg) : (ord F l ++ [x]).drop 1 = ord ((F + 1) % l.length) (l.set F x) := by
  have e2 : l.set F x = (l.take F ++ [x]) ++ l.drop (F + 1) := by
    rw [List.set_eq_take_append_cons_drop, if_pos hF]; simp
  have hl : (l.take F ++ [x]).length = F + 1 := by simp; omega
  unfold ord
  rw [List.drop_eq_getElem_cons hF]
  simp only [List.cons_append, List.drop_succ_cons, List.drop_zero]
  by_cases h : F + 1 = l.length
  · rw [← h, Nat.mod_self, e2, List.drop_eq_nil_of_le (by omega)]; simp
  · rw [Nat.mod_eq_of_lt (by omega), e2, List.drop_left' hl, List.take_left' hl]; simp
theorem ord_head {F : Nat} {l : List Chg} (hF : F < l.length) (x d : Chg) : (ord F l ++ [x]).headD d = l.getD F d := by
  unfold ord
  rw [List.drop_eq_getElem_cons hF]
  simp [hF]
theorem ord_zero (l : List Chg) : ord 0 l = l := by unfold ord; simp
/-- The collection is the reference's. -/
structure Sim (c : Cs) (R : Rs) : Prop where
  L : R.L = c.L
  log : R.log = ord c.F c.ring
  cards : R.cards = c.most
  lim : R.lim = c.lmost
  la : R.latest = c.latest
  ho : R.horizon = c.horizon
  so : R.log.Pairwise fun a b => a.1 ≤ b.1
  sl : ∀ q ∈ R.log, q.1 ≤ R.latest
/-- A collection behind k writes. -/
structure Inv (k : Nat) (c : Cs) : Prop where
  srt : Srt c.L
  n : c.L.length ≤ k
  r : c.ring.length ≤ k
  F0 : (c.ring.length : Int) < c.lmost → c.F = 0
  F1 : ¬ (c.ring.length : Int) < c.lmost → c.F < c.ring.length
  lm : 1 ≤ c.lmost
  mo : 1 ≤ c.most
  by_ : c.bytes = (bytesL c.L : Int)
  kl : ∀ p ∈ c.L, p.1.size ≤ 1000 ∧ p.2.2.size ≤ 10000
  kr : ∀ q ∈ c.ring, q.2.size ≤ 1000
theorem sim_new (birth cards log : Int) : Sim (newC birth cards log) (rnewC birth cards log) := ⟨rfl, rfl, rfl, rfl, rfl, rfl, List.Pairwise.nil, fun q h => by cases h⟩
theorem inv_new (birth cards log : Int) : Inv 0 (newC birth cards log) := ⟨List.Pairwise.nil, Nat.le_refl _, Nat.le_refl _, fun _ => rfl, (fun h => absurd (show ((0 : Nat) : Int) < max log 1 by omega) h), (show 1 ≤ max log 1 by omega), (show 1 ≤ max cards 1 by omega), rfl, (fun p h => by cases h), (fun p h => by cases h)⟩
/-- What the row of cards comes to. -/
def putL (L : LK) (del : Bool) (uid card : ByteArray) (tok : Int) : LK := if del = true then delL uid L else insL uid (tok, card) L
theorem rRow_eq {L : LK} (hs : Srt L) (del : Bool) (uid card : ByteArray) (tok : Int) (hd : del = true → (getL uid L).isSome = true) : rRow L del uid card tok = putL L del uid card tok := by
  cases del with
  | true => exact rRow_del hs uid card tok (hd rfl)
  | false => exact rRow_put hs uid card tok
theorem sim_yes {k : Nat} {c : Cs} {R : Rs} (h : Sim c R) (hi : Inv k c) (del : Bool) (uid card : ByteArray) (tok : Int) (hla : ¬ tok < c.latest) (hd : del = true → (getL uid c.L).isSome = true) : Sim (yesC c del uid card tok) (rYes R del uid card tok) := by
  obtain ⟨L, F, rg, mo, lm, la, ho, by_⟩ := c
  obtain ⟨L', lg, cd, li, la', ho'⟩ := R
  obtain ⟨e1, e2, e3, e4, e5, e6, hso, hsl⟩ := h
  simp only at e1 e2 e3 e4 e5 e6 hso hsl hla
  subst e1 e2 e3 e4 e5 e6
  have g1 : (ord F rg ++ [(tok, uid)]).Pairwise fun a b => a.1 ≤ b.1 := List.pairwise_append.2 ⟨hso, List.pairwise_singleton _ _, fun a ha b hb => by
    rw [List.mem_singleton.1 hb]
    have := hsl a ha
    show a.1 ≤ tok
    omega⟩
  have g2 : ∀ q ∈ ord F rg ++ [(tok, uid)], q.1 ≤ tok := fun q hq => by
    rcases List.mem_append.1 hq with hq | hq
    · have := hsl q hq; omega
    · rw [List.mem_singleton.1 hq]; exact Int.le_refl _
  have hF0 := hi.F0
  have hF1 := hi.F1
  have hs := hi.srt
  simp only at hF0 hF1 hs hd
  have hr := rRow_eq hs del uid card tok hd
  unfold rYes yesC rLog rpush
  simp only
  by_cases hf : (rg.length : Int) < li
  · have hx : ¬ li < ((ord F rg).length : Int) + 1 := by rw [ord_len]; omega
    rw [if_pos hf, if_neg hx]
    have h0 := hF0 hf
    subst h0
    exact ⟨hr, by simp only [ord_zero], rfl, rfl, rfl, rfl, g1, g2⟩
  · have hx : li < ((ord F rg).length : Int) + 1 := by rw [ord_len]; omega
    rw [if_neg hf, if_pos hx]
    have h1 := hF1 hf
    exact ⟨hr, ord_full h1 _, rfl, rfl, rfl, by rw [ord_head h1], g1.sublist (List.drop_sublist _ _), fun q hq => g2 q (List.mem_of_mem_drop hq)⟩
theorem oldN_le {L : LK} (hs : Srt L) (u : ByteArray) : oldN (getL u L) ≤ bytesL L := by have := bytes_del hs u; omega
theorem inv_yes {k : Nat} {c : Cs} (hi : Inv k c) (del : Bool) (uid card : ByteArray) (tok : Int) (hu : uid.size ≤ 1000) (hc : card.size ≤ 10000) : Inv (k + 1) (yesC c del uid card tok) := by
  obtain ⟨L, F, rg, mo, lm, la, ho, by_⟩ := c
  obtain ⟨hs, hn, hr, h0, h1, hlm, hmo, hby, hkl, hkr⟩ := hi
  simp only at hs hn hr h0 h1 hlm hmo hby hkl hkr
  have e1 : Srt (if del = true then delL uid L else insL uid (tok, card) L) := by split; exact hs.del _; exact hs.ins
  have e2 : (if del = true then delL uid L else insL uid (tok, card) L).length ≤ k + 1 := by
    split
    · have := delL_len (k := uid) hs; omega
    · rw [insL_len hs]; split <;> omega
  have e3 : (if del = true then by_ - oldS (getL uid L) else by_ - oldS (getL uid L) + (card.size : Int)) = (bytesL (if del = true then delL uid L else insL uid (tok, card) L) : Int) := by
    split
    · have := bytes_del hs uid; rw [oldS_N]; omega
    · have := bytes_ins hs uid (tok, card); rw [oldS_N]; simp only at this; omega
  have e4 : ∀ p ∈ (if del = true then delL uid L else insL uid (tok, card) L), p.1.size ≤ 1000 ∧ p.2.2.size ≤ 10000 := by
    intro p hp
    split at hp
    · exact hkl p (delL_sub.subset hp)
    · rcases insL_mem hp with rfl | hp
      · exact ⟨hu, hc⟩
      · exact hkl p hp
  unfold yesC rpush
  simp only
  by_cases hf : (rg.length : Int) < lm
  · rw [if_pos hf]
    refine ⟨e1, e2, by simp; omega, fun _ => h0 hf, fun h => ?_, hlm, hmo, e3, e4, fun q hq => ?_⟩
    · have := h0 hf; simp; omega
    · rcases List.mem_append.1 hq with hq | hq
      · exact hkr q hq
      · rw [List.mem_singleton.1 hq]; exact hu
  · rw [if_neg hf]
    have h2 := h1 hf
    refine ⟨e1, e2, by simp; omega, fun h => absurd h (by simp; omega), fun h => ?_, hlm, hmo, e3, e4, fun q hq => ?_⟩
    · simp only [List.length_set]; exact Nat.mod_lt _ (by omega)
    · rcases List.mem_or_eq_of_mem_set hq with hq | hq
      · exact hkr q hq
      · rw [hq]; exact hu
theorem Inv.up {k m : Nat} {c : Cs} (h : Inv k c) (hk : k ≤ m) : Inv m c := ⟨h.srt, Nat.le_trans h.n hk, Nat.le_trans h.r hk, h.F0, h.F1, h.lm, h.mo, h.by_, h.kl, h.kr⟩
theorem bytesL_le2 : ∀ (L : LK), (∀ p ∈ L, p.2.2.size ≤ 10000) → bytesL L ≤ L.length * 10000
  | [], h => by simp [bytesL]
  | p :: L, h => by
    have h1 := h p List.mem_cons_self
    have h2 := bytesL_le2 L (fun q hq => h q (List.mem_cons_of_mem _ hq))
    simp only [bytesL, List.length_cons]
    omega
theorem Inv.cz {k : Nat} {c : Cs} (h : Inv k c) (hk : k ≤ 10000) : Cz c :=
  have hb := bytesL_le2 c.L (fun p hp => (h.kl p hp).2)
  have hn := h.n
  have hr := h.r
  ⟨by omega, by omega, h.F1, by rw [h.by_]; omega, by rw [h.by_]; omega, fun u x hx => by have := (h.kl _ (getL_mem hx)).2; simp only at this; omega⟩
theorem Inv.fit {k : Nat} {c : Cs} (h : Inv k c) (hk : k ≤ 10000) : FitC c :=
  have hn := h.n
  have hr := h.r
  ⟨fun hp => by by_cases e : (c.ring.length : Int) < c.lmost; (rw [h.F0 e]; exact hp); exact h.F1 e, by omega, by omega, fun q hq => by have := h.kr q hq; omega, fun q hq => by have := (h.kl q hq).1; omega⟩
/-- What the reference does with a write. -/
def rNo (R : Rs) (del : Bool) (uid : ByteArray) (tok : Int) : Bool := decide (tok < R.latest) || (del && !(getL uid R.L).isSome) || (!del && !(getL uid R.L).isSome && decide (R.cards ≤ (R.L.length : Int)))
def rAp (R : Rs) (del : Bool) (uid card : ByteArray) (tok : Int) : Bool × Rs := if rNo R del uid tok = true then (false, R) else (true, rYes R del uid card tok)
theorem sim_no {c : Cs} {R : Rs} (h : Sim c R) (del : Bool) (uid : ByteArray) (tok : Int) : rNo R del uid tok = noC c del uid tok := by
  unfold rNo noC
  rw [h.la, h.L, h.cards]
theorem sim_apply {k : Nat} {c : Cs} {R : Rs} (h : Sim c R) (hi : Inv k c) (del : Bool) (uid card : ByteArray) (tok : Int) (hu : uid.size ≤ 1000) (hc : card.size ≤ 10000) : (rAp R del uid card tok).1 = (applyC c del uid card tok).1 ∧ Sim (applyC c del uid card tok).2 (rAp R del uid card tok).2 ∧ Inv (k + 1) (applyC c del uid card tok).2 := by
  unfold rAp applyC
  rw [sim_no h]
  by_cases hn : noC c del uid tok = true
  · rw [if_pos hn, if_pos hn]
    exact ⟨rfl, h, hi.up (by omega)⟩
  · rw [if_neg hn, if_neg hn]
    refine ⟨rfl, sim_yes h hi del uid card tok (fun e => hn (by unfold noC; rw [decide_eq_true e]; rfl)) (fun e => ?_), inv_yes hi del uid card tok hu hc⟩
    cases hth : (getL uid c.L).isSome with
    | true => rfl
    | false => exact absurd (by unfold noC; rw [e, hth]; simp) hn
end Go.Proofs.Ythcjbljkokflgaa
namespace Go.Proofs.Ythcjbljkokflgaa
open Go.RowKit
open Go.Lib
set_option linter.unusedVariables false
set_option linter.unusedSimpArgs false
set_option maxRecDepth 100000
theorem rapply_any {w : World} {B g : Nat} {R : Rs} (h : Rc w B g R) (hB : B ≤ w.heap.size) (hs : Srt R.L) (hn : R.L.length ≤ 20000) (hgn : R.log.length ≤ 20000) (uid card : ByteArray) (k v tok : Int) (del : Bool) :
    Calls Try.prog 17 #[.pointer (some ⟨g, 0, none⟩), .agg #[.bool del, .string uid, .string card, .int .i64 k, .int .i64 v], .int .i64 tok] w fun e w' => e = .returned (.bool (rAp R del uid card tok).1) ∧ Rc w' B g (rAp R del uid card tok).2 ∧ Kc RT B w w' := by
  unfold rAp
  by_cases hno : rNo R del uid tok = true
  · rw [if_pos hno]
    unfold rNo at hno
    by_cases hla : tok < R.latest
    · exact rna_any h hB hs hn uid card k v tok del hla
    · cases hth : (getL uid R.L).isSome with
      | true => rw [hth, decide_eq_false hla] at hno; cases del <;> simp at hno
      | false =>
        cases del with
        | true => exact rnb_any h hB hs hn uid card k v tok hla hth
        | false =>
          rw [hth, decide_eq_false hla] at hno
          exact rnc_any h hB hs hn uid card k v tok hla hth (by simpa using hno)
  · rw [if_neg hno]
    unfold rNo at hno
    have hla : ¬ tok < R.latest := fun e => hno (by rw [decide_eq_true e]; rfl)
    cases hth : (getL uid R.L).isSome with
    | true =>
      cases del with
      | true =>
        by_cases hf : R.lim < (R.log.length : Int) + 1
        · exact rdf_any h hB hs hn hgn uid card k v tok hla hth hf
        · exact rdr_any h hB hs hn hgn uid card k v tok hla hth hf
      | false =>
        by_cases hf : R.lim < (R.log.length : Int) + 1
        · exact rtf_any h hB hs hn hgn uid card k v tok hla hth hf
        · exact rtr_any h hB hs hn hgn uid card k v tok hla hth hf
    | false =>
      rw [hth, decide_eq_false hla] at hno
      cases del with
      | true => exact absurd rfl hno
      | false =>
        have hmo : ¬ R.cards ≤ (R.L.length : Int) := by simpa using hno
        by_cases hf : R.lim < (R.log.length : Int) + 1
        · exact rnf_any h hB hs hn hgn uid card k v tok hla hth hmo hf
        · exact rnr_any h hB hs hn hgn uid card k v tok hla hth hmo hf
end Go.Proofs.Ythcjbljkokflgaa
