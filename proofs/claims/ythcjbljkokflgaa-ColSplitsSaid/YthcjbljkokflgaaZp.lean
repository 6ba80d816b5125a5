/- A collection: Apply. -/
import Derived.Test.YthcjbljkokflgaaZo
import Derived.Test.YthcjbljkokflgaaZg
set_option linter.unnecessarySimpa false
/- The collection: Since. -/
namespace Go.Proofs.Ythcjbljkokflgaa
open Go.RowKit
open Go.Lib
open Go.Shelf
set_option linter.unusedVariables false
set_option linter.unusedSimpArgs false
set_option maxRecDepth 100000
/-- By UID. -/
def Ul (x y : It) : Prop := klt x.u y.u = true
theorem ul_live {L : LK} (h : Srt L) : (itsK L).Pairwise Ul := by
  unfold itsK
  exact List.pairwise_map.2 (h.imp fun h => h)
theorem chgI_u (L : LK) (p : ByteArray × Int) : (chgI L p).u = p.1 := by unfold chgI; split <;> rfl
theorem ul_chg (L : LK) {M : List (ByteArray × Int)} (h : Srt M) : (chgL L M).Pairwise Ul := by
  unfold chgL
  refine List.pairwise_map.2 (h.imp fun h => ?_)
  unfold Ul
  rw [chgI_u, chgI_u]
  exact h
/-- What Since tells, by UID. -/
def sin0 (c : Cs) (T : Int) : List It := if T = 0 then itsK c.L else chgL c.L (lastL T (ord c.F c.ring).reverse)
/-- What Since tells: by version, then by UID. -/
def Sin (c : Cs) (T : Int) (ys : List It) : Prop := ys.Perm (sin0 c T) ∧ Ris It.v Ul ys
/-- How large a collection may be, for these walks. -/
structure FitC (c : Cs) : Prop where
  hF : 0 < c.ring.length → c.F < c.ring.length
  hr : c.ring.length ≤ 40000
  hl : c.L.length ≤ 1000000
  kr : ∀ q ∈ c.ring, q.2.size ≤ 1000000
  kl : ∀ q ∈ c.L, q.1.size ≤ 1000000
set_option maxHeartbeats 8000000 in
theorem since_bad {w : World} {B0 g : Nat} {c : Cs} (hC : Cl w B0 g c) {T : Int} (h0 : T ≠ 0) (h1 : T < c.horizon ∨ c.latest < T) :
    Calls Try.prog 28 #[.pointer (some ⟨g, 0, none⟩), .int .i64 T] w fun e w' => e = .returned (.tuple #[.slice none 0 0, .int .i64 8]) ∧ w' = w := by
  obtain ⟨m, R, hbx, -, -, -, -⟩ := hC
  have c4 := hbx.cell 4
  have c5 := hbx.cell 5
  simp only [List.getElem?_toArray, List.getElem?_cons_zero, List.getElem?_cons_succ] at c4 c5
  have d : (T == 0) = false := by simpa using h0
  clear hbx
  by_cases h2 : T < c.horizon
  · go_enter Try.func28, Try.ntmps28
    go_wp2
    go_ret2
    exact ⟨rfl, rfl⟩
  · have h3 : c.latest < T := by omega
    go_enter Try.func28, Try.ntmps28
    go_wp2
    go_ret2
    exact ⟨rfl, rfl⟩
set_option maxHeartbeats 8000000 in
theorem since_live {w : World} {B0 g : Nat} {c : Cs} (hC : Cl w B0 g c) (hS : Srt c.L) (hf : FitC c) :
    Calls Try.prog 28 #[.pointer (some ⟨g, 0, none⟩), .int .i64 0] w fun e w' => ∃ U ys, Sin c 0 ys ∧ e = .returned (.tuple #[U, .int .i64 0]) ∧ w'.ownsRow w.heap.size 62 4 U ys.length (itsC ys) ∧ Below w.heap.size w w' := by
  have HLV := Lib.hid (live_any hC hf.hl hf.kl)
  have HSO := Lib.hid (fun (W : World) (v : Value) (hb : w.heap.size ≤ W.heap.size) (h : W.ownsRow w.heap.size 62 4 v c.L.length (itsC (itsK c.L))) => sortI_own Ul h (itsK_len _) (by have := hf.hl; omega) hb (ul_live hS))
  clear hC hf hS
  go_enter Try.func28, Try.ntmps28
  go_wp2_with fail
  refine HLV.out.mono ?_
  rintro _ w1 ⟨U, rfl, h1, h2⟩
  have HO1 := Lib.hid h1
  have HB1 := Lib.hid h2
  clear h1 h2
  go_wp2_with fail
  refine (HSO.out _ U HB1.out.size HO1.out).mono ?_
  rintro _ w2 ⟨rfl, ys, h1, h2, h3, h4⟩
  have HY := Lib.hid (show Sin c 0 ys ∧ w2.ownsRow w.heap.size 62 4 U ys.length (itsC ys) from ⟨⟨by unfold sin0; rw [if_pos rfl]; exact h1, h2⟩, by rw [h1.length_eq, itsK_len]; exact h3⟩)
  have HB2 := Lib.hid (HB1.out.trans h4)
  clear h1 h2 h3 h4
  go_wp2
  go_ret2
  exact ⟨U, ys, HY.out.1, rfl, HY.out.2, HB2.out⟩
set_option maxHeartbeats 8000000 in
theorem since_chg {w : World} {B0 g : Nat} {c : Cs} (hC : Cl w B0 g c) (hf : FitC c) {T : Int} (h0 : T ≠ 0) (h1 : c.horizon ≤ T) (h2 : T ≤ c.latest) :
    Calls Try.prog 28 #[.pointer (some ⟨g, 0, none⟩), .int .i64 T] w fun e w' => ∃ U ys, Sin c T ys ∧ e = .returned (.tuple #[U, .int .i64 0]) ∧ w'.ownsRow w.heap.size 62 4 U ys.length (itsC ys) ∧ Below w.heap.size w w' := by
  obtain ⟨M, hM⟩ : ∃ M, lastL T (ord c.F c.ring).reverse = M := ⟨_, rfl⟩
  have HML := Lib.hid (show M.length < 100000000 by
    rw [← hM]
    unfold lastL
    exact Nat.lt_of_le_of_lt (Nat.le_trans (accL_len _) (Nat.le_trans (List.takeWhile_sublist _).length_le (by rw [List.length_reverse, ord_len]; exact hf.hr))) (by omega))
  have HMS := Lib.hid (show Srt M from hM ▸ lastL_srt _ _)
  have HCH := Lib.hid (changed_any hC hf.hF hf.hr hf.kr T)
  rw [hM] at HCH
  have HMM := Lib.hid (show sin0 c T = chgL c.L M by unfold sin0; rw [if_neg h0, hM])
  have HSO := Lib.hid (fun (W : World) (v : Value) (hb : w.heap.size ≤ W.heap.size) (h : W.ownsRow w.heap.size 62 4 v M.length (itsC (chgL c.L M))) => sortI_own Ul h (chgL_len _ _) HML.out hb (ul_chg c.L HMS.out))
  obtain ⟨m, R, hbx, -, -, -, -⟩ := hC
  have c4 := hbx.cell 4
  have c5 := hbx.cell 5
  simp only [List.getElem?_toArray, List.getElem?_cons_zero, List.getElem?_cons_succ] at c4 c5
  have d : (T == 0) = false := by simpa using h0
  have d2 : ¬ T < c.horizon := by omega
  have d3 : ¬ c.latest < T := by omega
  clear hbx hf hM
  go_enter Try.func28, Try.ntmps28
  go_wp2_with fail
  refine HCH.out.mono ?_
  rintro _ w1 ⟨U, M', rfl, rfl, h1, h2⟩
  have HO1 := Lib.hid h1
  have HB1 := Lib.hid h2
  clear h1 h2
  go_wp2_with fail
  refine (HSO.out _ U HB1.out.size HO1.out).mono ?_
  rintro _ w2 ⟨rfl, ys, h1, h2, h3, h4⟩
  have HY := Lib.hid (show Sin c T ys ∧ w2.ownsRow w.heap.size 62 4 U ys.length (itsC ys) from ⟨⟨by rw [HMM.out]; exact h1, h2⟩, by rw [h1.length_eq, chgL_len]; exact h3⟩)
  have HB2 := Lib.hid (HB1.out.trans h4)
  clear h1 h2 h3 h4
  go_wp2
  go_ret2
  exact ⟨U, ys, HY.out.1, rfl, HY.out.2, HB2.out⟩
end Go.Proofs.Ythcjbljkokflgaa
namespace Go.Proofs.Ythcjbljkokflgaa
open Go.RowKit
open Go.Lib
set_option linter.unusedVariables false
set_option linter.unusedSimpArgs false
set_option maxRecDepth 100000
def rpush (c : Cs) (x : Chg) : Cs := if (c.ring.length : Int) < c.lmost then { c with ring := c.ring ++ [x] } else { c with ring := c.ring.set c.F x, F := (c.F + 1) % c.ring.length, horizon := max c.horizon (c.ring.getD c.F (0, .empty)).1 }
def oldS (o : Option (Int × ByteArray)) : Int := ((o.getD (0, .empty)).2.size : Int)
def noC (c : Cs) (del : Bool) (uid : ByteArray) (tok : Int) : Bool := decide (tok < c.latest) || (del && !(getL uid c.L).isSome) || (!del && !(getL uid c.L).isSome && decide (c.most ≤ (c.L.length : Int)))
def yesC (c : Cs) (del : Bool) (uid card : ByteArray) (tok : Int) : Cs :=
  { rpush { c with L := if del = true then delL uid c.L else insL uid (tok, card) c.L, bytes := if del = true then c.bytes - oldS (getL uid c.L) else c.bytes - oldS (getL uid c.L) + (card.size : Int) } (tok, uid) with latest := tok }
def applyC (c : Cs) (del : Bool) (uid card : ByteArray) (tok : Int) : Bool × Cs := if noC c del uid tok = true then (false, c) else (true, yesC c del uid card tok)
def ApP (w : World) (B g : Nat) (r : Bool × Cs) (e : Ending) (w' : World) : Prop := e = .returned (.bool r.1) ∧ Cl w' B g r.2 ∧ Kc CT B w w'
/-- What a collection must be for its numbers to stay as they are. -/
structure Cz (c : Cs) : Prop where
  n : c.L.length ≤ 40000
  r : c.ring.length ≤ 1000000
  F : ¬ (c.ring.length : Int) < c.lmost → c.F < c.ring.length
  b0 : -1000000000000 ≤ c.bytes
  b1 : c.bytes ≤ 1000000000000
  s : ∀ k x, getL k c.L = some x → x.2.size ≤ 1000000
/-- What stands while Apply goes on. -/
structure Ap (w W : World) (B g m R X O : Nat) (cs opc : Array Value) (L : LK) (F : Nat) (rg : List Chg) (lm : Int) (x : Int × ByteArray) : Prop where
  G : Blk W g 74 cs
  M : OC.Om W m L
  R : Rg W B R lm F rg
  X : Blk W X 33 opc
  Y : Blk W O 68 #[.int .i64 x.1, .string x.2]
  K : Kc CT B w W
  e4 : B ≤ g
  e5 : B ≤ m
  hB : B ≤ w.heap.size
section
variable {w W W' : World} {B g m R X O : Nat} {cs cs' opc : Array Value} {L L' : LK} {F F' : Nat} {rg rg' : List Chg} {lm : Int} {x : Int × ByteArray}
theorem Ap.sz (h : Ap w W B g m R X O cs opc L F rg lm x) : B ≤ W.heap.size := Nat.le_trans h.hB h.K.size
theorem Ap.to (h : Ap w W B g m R X O cs opc L F rg lm x) {T : TypeId → Prop} (k : Kc T B W W') (hT : ∀ t, T t → CT t) (hG : Blk W' g 74 cs') (hM : OC.Om W' m L') (hR : Rg W' B R lm F' rg') : Ap w W' B g m R X O cs' opc L' F' rg' lm x :=
  ⟨hG, hM, hR, k.far X _ _ h.X (fun e => absurd (hT _ e) (by unfold CT; decide)), k.far O _ _ h.Y (fun e => absurd (hT _ e) (by unfold CT; decide)), h.K.trans (k.wide hT), h.e4, h.e5, h.hB⟩
theorem Ap.on (h : Ap w W B g m R X O cs opc L F rg lm x) (hb : Below W.heap.size W W') : Ap w W' B g m R X O cs opc L F rg lm x :=
  ⟨h.G.below hb h.G.lt, h.M.below hb, h.R.below hb, h.X.below hb h.X.lt, h.Y.below hb h.Y.lt, h.K.trans (Kc.of hb h.sz), h.e4, h.e5, h.hB⟩
theorem Ap.drewN (h : Ap w W B g m R X O cs opc L F rg lm x) (n : Nat) : Ap w (W.drewN n) B g m R X O cs opc L F rg lm x := h.on (kx_drewN (Below.refl _ _) n)
theorem Ap.drew (h : Ap w W B g m R X O cs opc L F rg lm x) : Ap w W.drew B g m R X O cs opc L F rg lm x := h.on (Below.refl _ _).drew
/-- A field of the collection's own box. -/
theorem Ap.set (h : Ap w W B g m R X O cs opc L F rg lm x) (i : Nat) (u : Value) : Ap w (W.setCell ⟨g, i, none⟩ u) B g m R X O (cs.setIfInBounds i u) opc L F rg lm x := by
  have k : Kc GT B W (W.setCell ⟨g, i, none⟩ u) := (Kc.refl GT B W).set h.G rfl h.e4 i u
  exact h.to k ct_gt (h.G.set_ i u) (om_keep h.M k (by unfold GT; decide) (by unfold GT; decide)) (h.R.keep k (by unfold GT; decide) (by unfold GT; decide))
theorem Ap.map (h : Ap w W B g m R X O cs opc L F rg lm x) (hM : OC.Om W' m L') (k : OC.Ko W W' m) : Ap w W' B g m R X O cs opc L' F rg lm x :=
  have k' : Kc MT B W W' := kc_ko k h.M h.e5 h.sz
  h.to k' ct_mt (k'.far g _ _ h.G (by unfold MT; decide)) hM (h.R.keep k' (by unfold MT; decide) (by unfold MT; decide))
/-- A store into a block of the ring's kind that isn't the ring's. -/
theorem Ap.setRow (h : Ap w W B g m R X O cs opc L F rg lm x) {j : Nat} {ds : Array Value} (hj : Blk W j 72 ds) {i : Nat} {u : Value} (hR : Rg (W.setCell ⟨j, i, none⟩ u) B R lm F rg) (hB : B ≤ j) (_ : Nat) (_ : Value) : Ap w (W.setCell ⟨j, i, none⟩ u) B g m R X O cs opc L F rg lm x :=
  have k : Kc PT B W (W.setCell ⟨j, i, none⟩ u) := (Kc.refl PT B W).set hj (.inr rfl) hB i u
  h.to k ct_pt (k.far g _ _ h.G (by unfold PT; decide)) (om_keep h.M k (by unfold PT; decide) (by unfold PT; decide)) hR
theorem Ap.ring (h : Ap w W B g m R X O cs opc L F rg lm x) (hR : Rg W' B R lm F' rg') (k : Kc PT B W W') : Ap w W' B g m R X O cs opc L F' rg' lm x :=
  h.to k ct_pt (k.far g _ _ h.G (by unfold PT; decide)) (om_keep h.M k (by unfold PT; decide) (by unfold PT; decide)) hR
end
end Go.Proofs.Ythcjbljkokflgaa
