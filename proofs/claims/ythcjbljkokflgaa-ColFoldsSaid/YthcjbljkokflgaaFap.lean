/- A collection: Apply. -/
import Derived.Test.YthcjbljkokflgaaFao
import Derived.Test.YthcjbljkokflgaaFaa
import Derived.Test.YthcjbljkokflgaaFak
import Derived.Test.YthcjbljkokflgaaFah
set_option linter.unnecessarySimpa false
/- slices.SortStableFunc of items by version: over a row that a call owns. -/
namespace Go.Proofs.Ythcjbljkokflgaa
open Go.RowKit
open Go.Lib hiding intOf
open Go.Sort Go.Proofs
set_option linter.unusedVariables false
set_option linter.unusedSimpArgs false
set_option maxRecDepth 1000000
/-- What cmp.Compare answers. -/
def cmpI (a b : Int) : Int := if a < b then -1 else if b < a then 1 else 0
def cfI (x y : It) : Int := cmpI x.v y.v
theorem cfI_lt (x y : It) : cfI x y < 0 ↔ x.v < y.v := by
  unfold cfI cmpI
  by_cases h : x.v < y.v
  · rw [if_pos h]; exact ⟨fun _ => h, fun _ => by decide⟩
  · rw [if_neg h]
    by_cases g : y.v < x.v
    · rw [if_pos g]; exact ⟨fun h => absurd h (by decide), fun k => absurd k h⟩
    · rw [if_neg g]; exact ⟨fun h => absurd h (by decide), fun k => absurd k h⟩
set_option maxHeartbeats 2000000 in
theorem nan_any (a : Int) (w : World) : Calls Try.prog 71 #[.int .i64 a] w fun e w' => e = .returned (.bool false) ∧ w' = w := by
  have d : (a != a) = false := by simp
  go_enter Try.func71, Try.ntmps71
  go_wp2
  go_ret
  exact ⟨rfl, rfl⟩
set_option maxHeartbeats 4000000 in
theorem compare_any (a b : Int) (w : World) : Calls Try.prog 54 #[.int .i64 a, .int .i64 b] w fun e w' => e = .returned (.int .i64 (cmpI a b)) ∧ GrI w w' := by
  obtain ⟨r, hr⟩ : ∃ r, cmpI a b = r := ⟨_, rfl⟩
  rw [hr]
  have HR := Lib.hid (show r = if a < b then -1 else if b < a then 1 else 0 by rw [← hr]; rfl)
  clear hr
  have hA : ∀ W, Calls Try.prog 71 #[.int .i64 a] W fun e w' => e = .returned (.bool false) ∧ w' = W := fun W => nan_any a W
  have hB : ∀ W, Calls Try.prog 71 #[.int .i64 b] W fun e w' => e = .returned (.bool false) ∧ w' = W := fun W => nan_any b W
  by_cases h : a < b
  · have H0 := Lib.hid (show r = -1 by rw [HR.out, if_pos h])
    go_enter Try.func54, Try.ntmps54
    go_wp2_with fail
    refine (hA _).mono ?_
    rintro _ _ ⟨rfl, rfl⟩
    go_wp2_with fail
    refine (hB _).mono ?_
    rintro _ _ ⟨rfl, rfl⟩
    go_wp2
    go_ret
    exact ⟨by rw [H0.out]; rfl, GrI.refl _⟩
  · by_cases g : b < a
    · have H0 := Lib.hid (show r = 1 by rw [HR.out, if_neg h, if_pos g])
      go_enter Try.func54, Try.ntmps54
      go_wp2_with fail
      refine (hA _).mono ?_
      rintro _ _ ⟨rfl, rfl⟩
      go_wp2_with fail
      refine (hB _).mono ?_
      rintro _ _ ⟨rfl, rfl⟩
      go_wp2
      go_ret
      exact ⟨by rw [H0.out]; rfl, GrI.refl _⟩
    · have H0 := Lib.hid (show r = 0 by rw [HR.out, if_neg h, if_neg g])
      go_enter Try.func54, Try.ntmps54
      go_wp2_with fail
      refine (hA _).mono ?_
      rintro _ _ ⟨rfl, rfl⟩
      go_wp2_with fail
      refine (hB _).mono ?_
      rintro _ _ ⟨rfl, rfl⟩
      go_wp2
      go_ret
      exact ⟨by rw [H0.out]; rfl, GrI.refl _⟩
set_option maxHeartbeats 4000000 in
theorem since1_any (x y : It) (w : World) : Calls Try.prog 53 #[.agg (itC x).toArray, .agg (itC y).toArray] w fun e w' => e = .returned (.int .i64 (cfI x y)) ∧ GrI w w' := by
  obtain ⟨u, v, g, c⟩ := x
  obtain ⟨u2, v2, g2, c2⟩ := y
  have HC := Lib.hid (fun W => compare_any v v2 W)
  show Calls Try.prog 53 #[.agg #[.string u, .int .i64 v, .bool g, .string c], .agg #[.string u2, .int .i64 v2, .bool g2, .string c2]] w _
  obtain ⟨wA, hwA⟩ : ∃ wA, (w.alloc (.cells #[.string u, .int .i64 v, .bool g, .string c] 62)).alloc (.cells #[.string u2, .int .i64 v2, .bool g2, .string c2] 62) = wA := ⟨_, rfl⟩
  obtain ⟨n, hn⟩ : ∃ n, w.heap.size = n := ⟨_, rfl⟩
  have HB1 := Lib.hid (show Blk wA n 62 #[.string u, .int .i64 v, .bool g, .string c] from hwA ▸ hn ▸ (Blk.new w _ _).alloc _)
  have HB2 := Lib.hid (show Blk wA (n + 1) 62 #[.string u2, .int .i64 v2, .bool g2, .string c2] from by
    have := Blk.new (w.alloc (.cells #[.string u, .int .i64 v, .bool g, .string c] 62)) 62 #[.string u2, .int .i64 v2, .bool g2, .string c2]
    rw [World.size_alloc, hwA, hn] at this
    exact this)
  have HW := Lib.hid (show GrI w wA from hwA ▸ ((GrI.refl w).alloc _).alloc _)
  have HN := Lib.hid hn
  have a1 : wA.cell? ⟨n, 1, none⟩ = some (.int .i64 v) := HB1.out.cell 1
  have b1 : wA.cell? ⟨n + 1, 1, none⟩ = some (.int .i64 v2) := HB2.out.cell 1
  obtain ⟨r, hr⟩ : ∃ r, cmpI v v2 = r := ⟨_, rfl⟩
  rw [hr] at HC
  show Calls Try.prog _ _ _ fun e w' => e = .returned (.int .i64 (cmpI v v2)) ∧ _
  rw [hr]
  clear hr
  go_enter Try.func53, Try.ntmps53
  go_wp2_with fail
  refine (HC.out _).mono ?_
  rintro _ w1 ⟨rfl, hg⟩
  have HW1 := Lib.hid (HW.out.trans hg)
  clear hg
  go_wp2
  go_ret
  exact ⟨rfl, HW1.out⟩
theorem itC_get (f : It) (c : Nat) (h : c < 4) : (itC f)[c]? = some (itC f)[c]! := by
  match c, h with
  | 0, _ => rfl
  | 1, _ => rfl
  | 2, _ => rfl
  | 3, _ => rfl
theorem holds_its {w : World} {g : Nat} {cur : Array Value} {L : List It} (e3 : w.heap[g]? = some (.cells cur 62 (0, 0))) (e7 : cur.toList.take (L.length * 4) = itsC L) : HoldsK itC 4 w g 0 L.toArray := by
  have hb : Blk w g 62 cur := e3
  intro t ht
  rw [Nat.zero_add]
  refine ⟨?_, hb.frozen t⟩
  have ht2 : t < L.length * 4 := by simpa using ht
  have h3 : t / 4 < L.length := by omega
  have hc : cur[t]? = (itsC L)[t]? := by rw [← e7, List.getElem?_take_of_lt (by omega), Array.getElem?_toList]
  rw [hb.cell t, hc, itsC_at, get_flatK _ _ _ _ (by simpa using ht2), getElem!_pos L.toArray (t / 4) (by simpa using h3), List.getElem?_eq_getElem h3]
  simp only [List.getElem_toArray]
  exact itC_get _ _ (Nat.mod_lt _ (by decide))
theorem its_holds {w : World} {g : Nat} {cur : Array Value} {d : Array It} (e3 : w.heap[g]? = some (.cells cur 62 (0, 0))) (hH : HoldsK itC 4 w g 0 d) : cur.toList.take (d.size * 4) = itsC d.toList := by
  have hb : Blk w g 62 cur := e3
  refine List.ext_getElem? fun t => ?_
  by_cases ht : t < d.size * 4
  · have h3 : t / 4 < d.size := by omega
    have h := (hH t (by rw [size_flatK]; exact ht)).1
    rw [Nat.zero_add, hb.cell t, get_flatK _ _ _ _ ht, getElem!_pos d (t / 4) h3] at h
    rw [List.getElem?_take_of_lt ht, Array.getElem?_toList, h, itsC_at, Array.getElem?_toList, Array.getElem?_eq_getElem h3]
    exact (itC_get _ _ (Nat.mod_lt _ (by decide))).symm
  · rw [List.getElem?_take_eq_none (by omega), List.getElem?_eq_none_iff.2 (by rw [itsC_len, Array.length_toList]; omega)]
theorem sortI_block (w : World) (g m : Nat) (dk : Array It) (os : Array Obj) {cur : Array Value} (h : w.heap[g]? = some (.cells cur 62 (0, 0))) : ∃ cur', (sortWorldK itC 4 w g 0 m dk os).heap[g]? = some (.cells cur' 62 (0, 0)) ∧ cur'.size = cur.size := by
  have hg : g < w.heap.size := (Array.getElem?_eq_some_iff.1 h).1
  refine ⟨putCells id 0 (flatK itC 4 dk) cur, ?_, by simp [putCells]⟩
  unfold sortWorldK
  rw [heap_grow_old _ os (by rw [size_putRowK]; exact hg)]
  unfold putRowK putRow mapBlock
  simp only [Array.getElem?_modify, if_pos]
  show Option.map _ (w.heap[g]?) = _
  rw [h]
  rfl
theorem sortI_grown (w : World) (g m : Nat) (dk : Array It) (os : Array Obj) : w.grownBy (sortWorldK itC 4 w g 0 m dk os) (some g) := by
  unfold sortWorldK putRowK
  refine ⟨rfl, rfl, rfl, ?_, fun j hj hne => ?_⟩
  · simp
  · have h1 : (putRow id (Sort.ahead w m) g 0 (flatK itC 4 dk)).heap[j]? = w.heap[j]? := by
      unfold putRow mapBlock
      have hne' : ¬ g = j := fun e => hne (by rw [e])
      simp only [Array.getElem?_modify, if_neg hne']
      rfl
    rw [heap_grow_old _ os (by simpa using hj)]
    exact h1
theorem cmp_laysI (g size : Nat) (w : World) : CmpLays Try.prog 53 #[] itC 4 cfI g 0 size w := by
  intro m os dk _ x y
  refine (since1_any x y _).mono ?_
  rintro e w' ⟨rfl, hg⟩
  exact ⟨rfl, hg⟩
theorem insI_none (p : Option Addr) (cap : Nat) (fv : Value) (w : World) : Calls Try.prog 83 #[.slice p 0 cap, .int .i64 0, .int .i64 0, fv] w fun e w' => e = .returned (.tuple #[]) ∧ w' = w := by
  go_enter Try.func83, Try.ntmps83
  go_wp2
  refine wp_loop_rounds 1 ?_
  rw [rounds_succ]
  go_wp2
  go_end0
  exact ⟨rfl, rfl⟩
theorem stableI_none (p : Option Addr) (cap : Nat) (fv : Value) (w : World) : Calls Try.prog 70 #[.slice p 0 cap, .int .i64 0, fv] w fun e w' => e = .returned (.tuple #[]) ∧ w' = w := by
  go_enter Try.func70, Try.ntmps70
  go_wp2
  refine wp_loop_rounds 1 ?_
  rw [rounds_succ]
  go_wp2_with fail
  refine (insI_none _ _ _ _).mono ?_
  rintro e w1 ⟨rfl, hw⟩
  replace hw := hw.symm
  subst hw
  go_wp2
  refine wp_loop_rounds 1 ?_
  rw [rounds_succ]
  go_wp2
  go_end0
  exact ⟨rfl, rfl⟩
set_option maxHeartbeats 4000000 in
/-- A row of items that a call owns, sorted by version; alike ones stay as they were. -/
theorem sortI_own {w : World} {base n : Nat} {v : Value} {xs : List It} (Rl : It → It → Prop) (h : w.ownsRow base 62 4 v n (itsC xs)) (hl : xs.length = n) (hn : n < 100000000) (hb : base ≤ w.heap.size) (hp : xs.Pairwise Rl) :
    Calls Try.prog 52 #[v, .func (.func 53) #[] #[]] w fun e w' => e = .returned (.tuple #[]) ∧ ∃ ys : List It, ys.Perm xs ∧ Ris It.v Rl ys ∧ w'.ownsRow base 62 4 v n (itsC ys) ∧ Below base w w' := by
  obtain ⟨h0, ⟨rfl, hz⟩ | ⟨g, cap, cur, rfl, e2, e3, e4, e5, e6, e7⟩⟩ := h
  · subst hz
    have hx : xs = [] := List.length_eq_zero_iff.1 hl
    subst hx
    have HS := Lib.hid (fun W => stableI_none none 0 (.func (.func 53) #[] #[]) W)
    have HQ : Aside (w.ownsRow base 62 4 (.slice none 0 0) 0 (itsC [])) := ⟨rfl, .inl ⟨rfl, rfl⟩⟩
    go_enter Try.func52, Try.ntmps52
    go_wp2_with fail
    refine (HS.out _).mono ?_
    rintro e w1 ⟨rfl, hw⟩
    replace hw := hw.symm
    subst hw
    go_wp2
    go_end0
    exact ⟨rfl, [], List.Perm.refl _, List.Pairwise.nil, HQ, Below.refl _ _⟩
  · have hg : g < w.heap.size := (Array.getElem?_eq_some_iff.1 e3).1
    have hH : HoldsK itC 4 w g 0 xs.toArray := holds_its e3 (by rw [hl]; exact e7)
    have R : RowK itC 4 w g 0 xs.toArray := ⟨fun _ => rfl, fun x v hv => by unfold itC at hv; simp at hv; rcases hv with rfl | rfl | rfl | rfl <;> rfl, hH, hg⟩
    have hst := stable_any bo_prog itC g 0 cap xs.toArray w R It.v Rl cfI cfI_lt 53 #[] (enters_of Try.func53 (by kernel_rfl) rfl) (cmp_laysI g _ w) (by simpa [hl] using hn) xs.toArray w rfl (SWK.start hH) xs (by simp) hp n (by simpa using hl)
    have HS := Lib.hid hst
    have HF : Aside (∀ W, SymQ It.v Rl itC 4 w g 0 xs.toArray [] [] xs (.returned (.tuple #[])) W → ∃ ys : List It, ys.Perm xs ∧ Ris It.v Rl ys ∧ W.ownsRow base 62 4 (.slice (some ⟨g, 0, none⟩) n cap) n (itsC ys) ∧ Below base w W) := by
      rintro W ⟨-, d', M, f1, f2, f3, f4, m, os, rfl⟩
      obtain ⟨cur', c1, c2⟩ := sortI_block w g m d' os e3
      have hgr := sortI_grown w g m d' os
      have hds : d'.size = n := by rw [f1]; simpa using hl
      have hM : d'.toList = M := by rw [f2]; simp
      have hH' := holdsK_sortWorldK_c itC 4 w g 0 xs.toArray d' m os hH hg f1
      refine ⟨M, f3, f4, ⟨?_, .inr ⟨g, cap, cur', rfl, e2, c1, e4, e5, by rw [c2]; exact e6, ?_⟩⟩, ⟨hgr.os, hgr.tape, hgr.output, hgr.size, fun j hj => hgr.block j (by omega) (fun e => by have := Option.some.inj e; omega)⟩⟩
      · rw [itsC_len, f3.length_eq, hl]
      · rw [← hds, its_holds c1 hH', hM]
    clear hst R hH hp e3 e7 h0
    go_enter Try.func52, Try.ntmps52
    go_wp2_with fail
    refine HS.out.mono ?_
    rintro e w1 h9
    obtain ⟨rfl, -⟩ := id h9
    have HX : Aside _ := HF _ h9
    clear h9 HF
    go_wp2
    go_end0
    exact ⟨rfl, HX⟩
end Go.Proofs.Ythcjbljkokflgaa
/- The collection: Since. -/
namespace Go.Proofs.Ythcjbljkokflgaa
open Go.RowKit
open Go.Lib
open Go.Shelf
set_option linter.unusedVariables false
set_option linter.unusedSimpArgs false
set_option maxRecDepth 100000
/-- By UID. -/
def Ul (x y : It) : Prop := klt x.u y.u = true
theorem ul_live {L : LK} (h : Srt L) : (itsK L).Pairwise Ul := by
  unfold itsK
  exact List.pairwise_map.2 (h.imp fun h => h)
theorem chgI_u (L : LK) (p : ByteArray × Int) : (chgI L p).u = p.1 := by unfold chgI; split <;> rfl
theorem ul_chg (L : LK) {M : List (ByteArray × Int)} (h : Srt M) : (chgL L M).Pairwise Ul := by
  unfold chgL
  refine List.pairwise_map.2 (h.imp fun h => ?_)
  unfold Ul
  rw [chgI_u, chgI_u]
  exact h
/-- What Since tells, by UID. -/
def sin0 (c : Cs) (T : Int) : List It := if T = 0 then itsK c.L else chgL c.L (lastL T (ord c.F c.ring).reverse)
/-- What Since tells: by version, then by UID. -/
def Sin (c : Cs) (T : Int) (ys : List It) : Prop := ys.Perm (sin0 c T) ∧ Ris It.v Ul ys
/-- How large a collection may be, for these walks. -/
structure FitC (c : Cs) : Prop where
  hF : 0 < c.ring.length → c.F < c.ring.length
  hr : c.ring.length ≤ 40000
  hl : c.L.length ≤ 1000000
  kr : ∀ q ∈ c.ring, q.2.size ≤ 1000000
  kl : ∀ q ∈ c.L, q.1.size ≤ 1000000
set_option maxHeartbeats 8000000 in
theorem since_bad {w : World} {B0 g : Nat} {c : Cs} (hC : Cl w B0 g c) {T : Int} (h0 : T ≠ 0) (h1 : T < c.horizon ∨ c.latest < T) :
    Calls Try.prog 28 #[.pointer (some ⟨g, 0, none⟩), .int .i64 T] w fun e w' => e = .returned (.tuple #[.slice none 0 0, .int .i64 8]) ∧ w' = w := by
  obtain ⟨m, R, hbx, -, -, -, -⟩ := hC
  have c4 := hbx.cell 4
  have c5 := hbx.cell 5
  simp only [List.getElem?_toArray, List.getElem?_cons_zero, List.getElem?_cons_succ] at c4 c5
  have d : (T == 0) = false := by simpa using h0
  clear hbx
  by_cases h2 : T < c.horizon
  · go_enter Try.func28, Try.ntmps28
    go_wp2
    go_ret2
    exact ⟨rfl, rfl⟩
  · have h3 : c.latest < T := by omega
    go_enter Try.func28, Try.ntmps28
    go_wp2
    go_ret2
    exact ⟨rfl, rfl⟩
set_option maxHeartbeats 8000000 in
theorem since_live {w : World} {B0 g : Nat} {c : Cs} (hC : Cl w B0 g c) (hS : Srt c.L) (hf : FitC c) :
    Calls Try.prog 28 #[.pointer (some ⟨g, 0, none⟩), .int .i64 0] w fun e w' => ∃ U ys, Sin c 0 ys ∧ e = .returned (.tuple #[U, .int .i64 0]) ∧ w'.ownsRow w.heap.size 62 4 U ys.length (itsC ys) ∧ Below w.heap.size w w' := by
  have HLV := Lib.hid (live_any hC hf.hl hf.kl)
  have HSO := Lib.hid (fun (W : World) (v : Value) (hb : w.heap.size ≤ W.heap.size) (h : W.ownsRow w.heap.size 62 4 v c.L.length (itsC (itsK c.L))) => sortI_own Ul h (itsK_len _) (by have := hf.hl; omega) hb (ul_live hS))
  clear hC hf hS
  go_enter Try.func28, Try.ntmps28
  go_wp2_with fail
  refine HLV.out.mono ?_
  rintro _ w1 ⟨U, rfl, h1, h2⟩
  have HO1 := Lib.hid h1
  have HB1 := Lib.hid h2
  clear h1 h2
  go_wp2_with fail
  refine (HSO.out _ U HB1.out.size HO1.out).mono ?_
  rintro _ w2 ⟨rfl, ys, h1, h2, h3, h4⟩
  have HY := Lib.hid (show Sin c 0 ys ∧ w2.ownsRow w.heap.size 62 4 U ys.length (itsC ys) from ⟨⟨by unfold sin0; rw [if_pos rfl]; exact h1, h2⟩, by rw [h1.length_eq, itsK_len]; exact h3⟩)
  have HB2 := Lib.hid (HB1.out.trans h4)
  clear h1 h2 h3 h4
  go_wp2
  go_ret2
  exact ⟨U, ys, HY.out.1, rfl, HY.out.2, HB2.out⟩
set_option maxHeartbeats 8000000 in
theorem since_chg {w : World} {B0 g : Nat} {c : Cs} (hC : Cl w B0 g c) (hf : FitC c) {T : Int} (h0 : T ≠ 0) (h1 : c.horizon ≤ T) (h2 : T ≤ c.latest) :
    Calls Try.prog 28 #[.pointer (some ⟨g, 0, none⟩), .int .i64 T] w fun e w' => ∃ U ys, Sin c T ys ∧ e = .returned (.tuple #[U, .int .i64 0]) ∧ w'.ownsRow w.heap.size 62 4 U ys.length (itsC ys) ∧ Below w.heap.size w w' := by
  obtain ⟨M, hM⟩ : ∃ M, lastL T (ord c.F c.ring).reverse = M := ⟨_, rfl⟩
  have HML := Lib.hid (show M.length < 100000000 by
    rw [← hM]
    unfold lastL
    exact Nat.lt_of_le_of_lt (Nat.le_trans (accL_len _) (Nat.le_trans (List.takeWhile_sublist _).length_le (by rw [List.length_reverse, ord_len]; exact hf.hr))) (by omega))
  have HMS := Lib.hid (show Srt M from hM ▸ lastL_srt _ _)
  have HCH := Lib.hid (changed_any hC hf.hF hf.hr hf.kr T)
  rw [hM] at HCH
  have HMM := Lib.hid (show sin0 c T = chgL c.L M by unfold sin0; rw [if_neg h0, hM])
  have HSO := Lib.hid (fun (W : World) (v : Value) (hb : w.heap.size ≤ W.heap.size) (h : W.ownsRow w.heap.size 62 4 v M.length (itsC (chgL c.L M))) => sortI_own Ul h (chgL_len _ _) HML.out hb (ul_chg c.L HMS.out))
  obtain ⟨m, R, hbx, -, -, -, -⟩ := hC
  have c4 := hbx.cell 4
  have c5 := hbx.cell 5
  simp only [List.getElem?_toArray, List.getElem?_cons_zero, List.getElem?_cons_succ] at c4 c5
  have d : (T == 0) = false := by simpa using h0
  have d2 : ¬ T < c.horizon := by omega
  have d3 : ¬ c.latest < T := by omega
  clear hbx hf hM
  go_enter Try.func28, Try.ntmps28
  go_wp2_with fail
  refine HCH.out.mono ?_
  rintro _ w1 ⟨U, M', rfl, rfl, h1, h2⟩
  have HO1 := Lib.hid h1
  have HB1 := Lib.hid h2
  clear h1 h2
  go_wp2_with fail
  refine (HSO.out _ U HB1.out.size HO1.out).mono ?_
  rintro _ w2 ⟨rfl, ys, h1, h2, h3, h4⟩
  have HY := Lib.hid (show Sin c T ys ∧ w2.ownsRow w.heap.size 62 4 U ys.length (itsC ys) from ⟨⟨by rw [HMM.out]; exact h1, h2⟩, by rw [h1.length_eq, chgL_len]; exact h3⟩)
  have HB2 := Lib.hid (HB1.out.trans h4)
  clear h1 h2 h3 h4
  go_wp2
  go_ret2
  exact ⟨U, ys, HY.out.1, rfl, HY.out.2, HB2.out⟩
end Go.Proofs.Ythcjbljkokflgaa
/- The reference's collection: what it is; NewCol, place, Get, Bytes. -/
namespace Go.Proofs.Ythcjbljkokflgaa
open Go.RowKit
open Go.Lib
set_option linter.unusedVariables false
set_option linter.unusedSimpArgs false
set_option maxRecDepth 100000
structure Rs where
  L : LK
  log : List Chg
  cards : Int
  lim : Int
  latest : Int
  horizon : Int
def rnewC (birth cards log : Int) : Rs := ⟨[], [], max cards 1, max log 1, birth, birth⟩
theorem itsK_get {L : LK} {q : Nat} {p : ByteArray × (Int × ByteArray)} (hp : L[q]? = some p) : (itsK L)[q]? = some ⟨p.1, p.2.1, false, p.2.2⟩ := by unfold itsK; rw [List.getElem?_map, hp]; rfl
end Go.Proofs.Ythcjbljkokflgaa
/- The reference's collection: Get, Bytes, Live; slices appended, cut. -/
namespace Go.Proofs.Ythcjbljkokflgaa
open Go.RowKit
open Go.Lib
set_option linter.unusedVariables false
set_option linter.unusedSimpArgs false
set_option maxRecDepth 100000
section
variable {P : Program} {w : World}
theorem run_append_nought (base : Nat) (t ty e : TypeId) (i : TypeInfo) (size : Nat) (ht : P.underlying t = some (.slice e)) (hi : P.info? e = some i)
    (v : Value) (n : Nat) (xs : List Value) (hown : w.ownsRow base e size v n xs) (A : Option Addr) (c : Nat) :
    (Builtin.append_ #[t, t] ty #[v, .slice A 0 c]).run P w = .ok v w := by
  have hlc : ∀ a : Addr, (loadCells a 0).run P w = .ok #[] w := fun a => by simp [loadCells, loadCellsFrom]
  rcases hown.2 with ⟨rfl, rfl⟩ | ⟨g, cap, cur, rfl, _, _, hnc, _⟩
  · cases A <;> simp [Builtin.append_, run_underlying ht, sizeOf, typeInfo, hi, Builtin.lenOf, Builtin.firstCells, hlc, Result.andThen]
  · cases A <;> simp [Builtin.append_, run_underlying ht, sizeOf, typeInfo, hi, Builtin.lenOf, Builtin.firstCells, hlc, hnc, storeCells, Result.andThen]
end
/-- A slice, its address unsaid where it is empty, appended onto a row of its own. -/
theorem wpList_apps {P : Program} {ops : Array Oper} {rest : List Oper} {o : Oper} {a : Act} {Q : Exit → Act → World → Prop} (w : World) (hgd : o.guard = none) (s x : Operand) (t e : TypeId)
    (ho : o.op = .call { callee := .builtin .append, args := #[s, x], argTypes := #[t, t] }) (i : TypeInfo) (z : Value) (size bytes : Nat) (ht : P.underlying t = some (.slice e)) (hi : P.info? e = some i) (hz : i.zero = some z) (hsz : i.size = size) (hby : i.bytes = bytes) (hzs : z.cells.size = size) (hs0 : 0 < size)
    (B : Nat) (V : Value) (n : Nat) (xs : List Value) (hs : a.eval s = V) (h : w.ownsRow B e size V n xs) (A : Option Addr) (m c : Nat) (news : List Value) (hx : a.eval x = .slice A m c) (hl : news.length = m * size) (hA : 0 < m → ∃ ad, A = some ad ∧ ∀ j u, news[j]? = some u → w.cell? (ad.add j) = some u) (h1 : ∀ u ∈ news, u.oneCell' = true)
    (hn : n + m ≤ maxLen) (hb : (n + m) * bytes ≤ 140737488355328) (hB : B ≤ w.heap.size)
    (hK : ∀ V' w', w'.ownsRow B e size V' (n + m) (xs ++ news) → w.grownBy w' V.ownBlock → wpList P ops Q rest (a.put o.dst V') w') : wpList P ops Q (o :: rest) a w := by
  rcases Nat.eq_zero_or_pos m with h0 | h0
  · subst h0
    obtain rfl : news = [] := List.eq_nil_of_length_eq_zero (by rw [hl]; omega)
    have hr := run_append_nought (P := P) (w := w) B t o.type e i size ht hi V n xs h A c
    refine wpList_plain hgd fun K hK2 => ?_
    unfold Oper.wp execOp
    simp only [ho, resolve, invoke, builtin, Sem.run_bind, Sem.run_pure, Result.andThen_ok, List.map_toArray, List.map_cons, List.map_nil, hs, hx, hr]
    have := hK V w (by rw [List.append_nil]; exact h) (World.grownBy.refl w _)
    first
      | exact hK2 _ _ this
      | (simp [Result.andThen]; exact hK2 _ _ this)
  · obtain ⟨ad, rfl, hc⟩ := hA h0
    exact wpList_append_own w hgd s x t ho B e i z size bytes ht hi hz hsz hby hzs hs0 V n xs hs h ad m c news hx hl hc h1 hn hb hB (fun V' w' h1 h2 _ => hK V' w' h1 h2)
theorem icut_to (A : Option Addr) (n cap k : Nat) (hk : k ≤ cap) (W : World) : (Instr.sliceAt 40 (.slice A n cap) none (some (.int .i64 (k : Int))) none).run Try.prog W = .ok (.slice A k cap) W := by
  rw [run_sliceAt_slice W 40 _ _ _ _ (by exact Try.underlying40), run_slice_h W 40 _ _ _ (by exact Try.underlying40) _ _ (by omega) (by omega)]
  have e : Try.prog.elem 40 = 62 := by kernel_rfl
  have e2 : (sizeOf 62).run Try.prog W = .ok 4 W := by kernel_rfl
  rw [e, e2]
  simp only [Result.andThen, sliced, Int.toNat_natCast, Nat.zero_mul, Nat.sub_zero]
  congr 2
  by_cases h : cap = 0
  · rw [if_pos h]
  · rw [if_neg h]
    cases A <;> rfl
/-- A row's cells, and those of its parts. -/
def Sk (w : World) (A : Option Addr) (cap g : Nat) (vs : List Value) : Prop := ∀ j u, vs[j]? = some u → A = some ⟨g, 0, none⟩ ∧ g < w.heap.size ∧ w.cell? ⟨g, j, none⟩ = some u
theorem sk_row {w : World} {B n k : Nat} {e : TypeId} {V : Value} {vs : List Value} (h : w.ownsRow B e k V n vs) : ∃ A cap g, V = .slice A n cap ∧ n ≤ cap ∧ Sk w A cap g vs := by
  obtain ⟨h0, ⟨rfl, rfl⟩ | ⟨g, cap, cur, rfl, e2, e3, e4, e5, e6, e7⟩⟩ := h
  · refine ⟨none, 0, 0, rfl, Nat.le_refl _, fun j u hj => ?_⟩
    have := (List.getElem?_eq_some_iff.1 hj).1
    rw [h0] at this
    omega
  · have hb : Blk w g e cur := e3
    refine ⟨some ⟨g, 0, none⟩, cap, g, rfl, e4, fun j u hj => ⟨rfl, hb.lt, ?_⟩⟩
    have hl := (List.getElem?_eq_some_iff.1 hj).1
    rw [h0] at hl
    rw [hb.cell, ← hj, ← e7, List.getElem?_take_of_lt hl, Array.getElem?_toList]
theorem Sk.on {w W : World} {A : Option Addr} {cap g : Nat} {vs : List Value} (h : Sk w A cap g vs) (hb : Below w.heap.size w W) : Sk W A cap g vs := fun j u hj => by
  obtain ⟨a, b, c⟩ := h j u hj
  exact ⟨a, Nat.lt_of_lt_of_le b hb.size, (hb.cell (p := ⟨g, j, none⟩) b).trans c⟩
theorem add_off (g o j : Nat) : (⟨g, o, none⟩ : Addr).add j = ⟨g, o + j, none⟩ := by unfold Addr.add; split <;> simp_all
theorem Sk.to {w : World} {A : Option Addr} {cap g : Nat} {vs : List Value} (h : Sk w A cap g vs) (k : Nat) (hk : 0 < k) (m : Nat) (hm : m * k ≤ vs.length) : 0 < m → ∃ ad, A = some ad ∧ ∀ j u, (vs.take (m * k))[j]? = some u → w.cell? (ad.add j) = some u := fun hp => by
  have h0 : 0 < m * k := Nat.mul_pos hp hk
  obtain ⟨rfl, -⟩ := h 0 _ (List.getElem?_eq_getElem (by omega))
  refine ⟨_, rfl, fun j u hj => ?_⟩
  rw [List.getElem?_take] at hj
  split at hj
  · rw [add_off, Nat.zero_add]; exact (h j u hj).2.2
  · cases hj
theorem itsC_take (xs : List It) (k : Nat) : itsC (xs.take k) = (itsC xs).take (k * 4) := by
  refine List.ext_getElem? fun t => ?_
  rw [itsC_at, List.getElem?_take, List.getElem?_take, itsC_at]
  by_cases h : t < k * 4
  · rw [if_pos h, if_pos (by omega)]
  · rw [if_neg h, if_neg (by omega)]
theorem itsC_append (a b : List It) : itsC (a ++ b) = itsC a ++ itsC b := by unfold itsC; simp
theorem itsC_one (xs : List It) : ∀ u ∈ itsC xs, u.oneCell' = true := fun u hu => by
  unfold itsC at hu
  obtain ⟨l, hl, hu⟩ := List.mem_flatten.1 hu
  obtain ⟨t, _, rfl⟩ := List.mem_map.1 hl
  unfold itC at hu
  simp only [List.mem_cons, List.not_mem_nil, or_false] at hu
  rcases hu with rfl | rfl | rfl | rfl <;> rfl
end Go.Proofs.Ythcjbljkokflgaa
/- The reference's collection: Get, Bytes. -/
namespace Go.Proofs.Ythcjbljkokflgaa
open Go.RowKit
open Go.Lib
set_option linter.unusedVariables false
set_option linter.unusedSimpArgs false
set_option maxRecDepth 100000
/-- How many bytes the cards have. -/
def bytesL : LK → Nat
  | [] => 0
  | p :: L => p.2.2.size + bytesL L
end Go.Proofs.Ythcjbljkokflgaa
/- The reference's Apply: what it leaves. -/
namespace Go.Proofs.Ythcjbljkokflgaa
open Go.RowKit
open Go.Lib
set_option linter.unusedVariables false
set_option linter.unusedSimpArgs false
set_option maxRecDepth 100000
/-- The row of cards behind a write. -/
def rRow (L : LK) (del : Bool) (uid card : ByteArray) (tok : Int) : LK := (L.take (plc uid L) ++ if del = true then [] else [(uid, (tok, card))]) ++ L.drop (if (getL uid L).isSome = true then plc uid L + 1 else plc uid L)
def rLog (R : Rs) (x : Chg) : Rs := if R.lim < (R.log.length : Int) + 1 then { R with log := (R.log ++ [x]).drop 1, horizon := max R.horizon ((R.log ++ [x]).headD (0, .empty)).1 } else { R with log := R.log ++ [x] }
def rYes (R : Rs) (del : Bool) (uid card : ByteArray) (tok : Int) : Rs := { rLog { R with L := rRow R.L del uid card tok } (tok, uid) with latest := tok }
theorem sk_of {w : World} {B n k cap : Nat} {e : TypeId} {A : Option Addr} {vs : List Value} (h : w.ownsRow B e k (.slice A n cap) n vs) : n ≤ cap ∧ ∃ g, Sk w A cap g vs := by
  obtain ⟨A', cap', g, e1, e2, e3⟩ := sk_row h
  cases e1
  exact ⟨e2, g, e3⟩
end Go.Proofs.Ythcjbljkokflgaa
namespace Go.Proofs.Ythcjbljkokflgaa
open Go.RowKit
open Go.Lib
set_option linter.unusedVariables false
set_option linter.unusedSimpArgs false
set_option maxRecDepth 100000
def rpush (c : Cs) (x : Chg) : Cs := if (c.ring.length : Int) < c.lmost then { c with ring := c.ring ++ [x] } else { c with ring := c.ring.set c.F x, F := (c.F + 1) % c.ring.length, horizon := max c.horizon (c.ring.getD c.F (0, .empty)).1 }
def oldS (o : Option (Int × ByteArray)) : Int := ((o.getD (0, .empty)).2.size : Int)
def noC (c : Cs) (del : Bool) (uid : ByteArray) (tok : Int) : Bool := decide (tok < c.latest) || (del && !(getL uid c.L).isSome) || (!del && !(getL uid c.L).isSome && decide (c.most ≤ (c.L.length : Int)))
def yesC (c : Cs) (del : Bool) (uid card : ByteArray) (tok : Int) : Cs :=
  { rpush { c with L := if del = true then delL uid c.L else insL uid (tok, card) c.L, bytes := if del = true then c.bytes - oldS (getL uid c.L) else c.bytes - oldS (getL uid c.L) + (card.size : Int) } (tok, uid) with latest := tok }
def applyC (c : Cs) (del : Bool) (uid card : ByteArray) (tok : Int) : Bool × Cs := if noC c del uid tok = true then (false, c) else (true, yesC c del uid card tok)
def ApP (w : World) (B g : Nat) (r : Bool × Cs) (e : Ending) (w' : World) : Prop := e = .returned (.bool r.1) ∧ Cl w' B g r.2 ∧ Kc CT B w w'
/-- What a collection must be for its numbers to stay as they are. -/
structure Cz (c : Cs) : Prop where
  n : c.L.length ≤ 40000
  r : c.ring.length ≤ 1000000
  F : ¬ (c.ring.length : Int) < c.lmost → c.F < c.ring.length
  b0 : -1000000000000 ≤ c.bytes
  b1 : c.bytes ≤ 1000000000000
  s : ∀ k x, getL k c.L = some x → x.2.size ≤ 1000000
/-- What stands while Apply goes on. -/
structure Ap (w W : World) (B g m R X O : Nat) (cs opc : Array Value) (L : LK) (F : Nat) (rg : List Chg) (lm : Int) (x : Int × ByteArray) : Prop where
  G : Blk W g 74 cs
  M : OC.Om W m L
  R : Rg W B R lm F rg
  X : Blk W X 33 opc
  Y : Blk W O 68 #[.int .i64 x.1, .string x.2]
  K : Kc CT B w W
  e4 : B ≤ g
  e5 : B ≤ m
  hB : B ≤ w.heap.size
section
variable {w W W' : World} {B g m R X O : Nat} {cs cs' opc : Array Value} {L L' : LK} {F F' : Nat} {rg rg' : List Chg} {lm : Int} {x : Int × ByteArray}
theorem Ap.sz (h : Ap w W B g m R X O cs opc L F rg lm x) : B ≤ W.heap.size := Nat.le_trans h.hB h.K.size
theorem Ap.to (h : Ap w W B g m R X O cs opc L F rg lm x) {T : TypeId → Prop} (k : Kc T B W W') (hT : ∀ t, T t → CT t) (hG : Blk W' g 74 cs') (hM : OC.Om W' m L') (hR : Rg W' B R lm F' rg') : Ap w W' B g m R X O cs' opc L' F' rg' lm x :=
  ⟨hG, hM, hR, k.far X _ _ h.X (fun e => absurd (hT _ e) (by unfold CT; decide)), k.far O _ _ h.Y (fun e => absurd (hT _ e) (by unfold CT; decide)), h.K.trans (k.wide hT), h.e4, h.e5, h.hB⟩
theorem Ap.on (h : Ap w W B g m R X O cs opc L F rg lm x) (hb : Below W.heap.size W W') : Ap w W' B g m R X O cs opc L F rg lm x :=
  ⟨h.G.below hb h.G.lt, h.M.below hb, h.R.below hb, h.X.below hb h.X.lt, h.Y.below hb h.Y.lt, h.K.trans (Kc.of hb h.sz), h.e4, h.e5, h.hB⟩
theorem Ap.drewN (h : Ap w W B g m R X O cs opc L F rg lm x) (n : Nat) : Ap w (W.drewN n) B g m R X O cs opc L F rg lm x := h.on (kx_drewN (Below.refl _ _) n)
theorem Ap.drew (h : Ap w W B g m R X O cs opc L F rg lm x) : Ap w W.drew B g m R X O cs opc L F rg lm x := h.on (Below.refl _ _).drew
/-- A field of the collection's own box. -/
theorem Ap.set (h : Ap w W B g m R X O cs opc L F rg lm x) (i : Nat) (u : Value) : Ap w (W.setCell ⟨g, i, none⟩ u) B g m R X O (cs.setIfInBounds i u) opc L F rg lm x := by
  have k : Kc GT B W (W.setCell ⟨g, i, none⟩ u) := (Kc.refl GT B W).set h.G rfl h.e4 i u
  exact h.to k ct_gt (h.G.set_ i u) (om_keep h.M k (by unfold GT; decide) (by unfold GT; decide)) (h.R.keep k (by unfold GT; decide) (by unfold GT; decide))
theorem Ap.map (h : Ap w W B g m R X O cs opc L F rg lm x) (hM : OC.Om W' m L') (k : OC.Ko W W' m) : Ap w W' B g m R X O cs opc L' F rg lm x :=
  have k' : Kc MT B W W' := kc_ko k h.M h.e5 h.sz
  h.to k' ct_mt (k'.far g _ _ h.G (by unfold MT; decide)) hM (h.R.keep k' (by unfold MT; decide) (by unfold MT; decide))
/-- A store into a block of the ring's kind that isn't the ring's. -/
theorem Ap.setRow (h : Ap w W B g m R X O cs opc L F rg lm x) {j : Nat} {ds : Array Value} (hj : Blk W j 72 ds) {i : Nat} {u : Value} (hR : Rg (W.setCell ⟨j, i, none⟩ u) B R lm F rg) (hB : B ≤ j) (_ : Nat) (_ : Value) : Ap w (W.setCell ⟨j, i, none⟩ u) B g m R X O cs opc L F rg lm x :=
  have k : Kc PT B W (W.setCell ⟨j, i, none⟩ u) := (Kc.refl PT B W).set hj (.inr rfl) hB i u
  h.to k ct_pt (k.far g _ _ h.G (by unfold PT; decide)) (om_keep h.M k (by unfold PT; decide) (by unfold PT; decide)) hR
theorem Ap.ring (h : Ap w W B g m R X O cs opc L F rg lm x) (hR : Rg W' B R lm F' rg') (k : Kc PT B W W') : Ap w W' B g m R X O cs opc L F' rg' lm x :=
  h.to k ct_pt (k.far g _ _ h.G (by unfold PT; decide)) (om_keep h.M k (by unfold PT; decide) (by unfold PT; decide)) hR
end
end Go.Proofs.Ythcjbljkokflgaa
