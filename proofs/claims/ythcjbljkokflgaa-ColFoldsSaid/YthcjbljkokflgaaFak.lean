/- The collection: changed. -/
import Derived.Test.YthcjbljkokflgaaFaj
import Derived.RangeFuncWrites
import Derived.RangeFuncBox
import Derived.Maps.AppendAt
import Derived.Laws.MakeOwn
import Derived.Test.YthcjbljkokflgaaFah
set_option linter.unnecessarySimpa false
/- Maps over trees (values: Int): Under and All as iterators; Keys. -/
namespace Go.Proofs.Ythcjbljkokflgaa.OI
open Go.RowKit
open Go.Lib
set_option linter.unusedVariables false
set_option linter.unusedSimpArgs false
set_option maxRecDepth 100000
open Go.Shelf
attribute [local go_sem] Oper.semAt_some
theorem KeepN.grown {W w1 : World} {base : Nat} {e : TypeId} {size : Nat} {v : Value} {k : Nat} {xs : List Value} (hrow : W.ownsRow base e size v k xs) (he : e ≠ 138) (hg : W.grownBy w1 v.ownBlock) : KeepN W w1 := fun b cs x => (hg.block b x.lt (fun eq => by
  rcases hrow.2 with ⟨rfl, _⟩ | ⟨g, cap, cur, rfl, _, hgb, _⟩
  · cases eq
  · obtain rfl : b = g := Option.some.inj eq
    unfold Blk at x
    rw [hgb] at x
    cases x
    exact he rfl)).trans x
theorem KeepN.put {w : World} (W : World) (l : Nat) (o o' : Obj) (_ : w.heap.size ≤ l) (h : W.heap[l]? = some o) (hc : o.isCells = false) (_ : o.isWalk = false) : KeepN W (W.putObj l o') := fun b cs x => (World.putObj_heap_other (fun e => by
  subst e
  unfold Blk at x
  rw [h] at x
  cases x
  cases hc)).trans x
set_option maxHeartbeats 4000000 in
theorem und_stops (n Bm Bx g : Nat) (t : T) (px : ByteArray) (hpx : px.size ≤ 1000000) (w : World) (hBm : Bm < w.heap.size) (hBx : Bx < w.heap.size) (cm : w.cell? ⟨Bm, 0, none⟩ = some (.pointer (some ⟨g, 0, none⟩))) (cx : w.cell? ⟨Bx, 0, none⟩ = some (.string px)) (hM : Mt w g t) (hks : ∀ q ∈ t.ino, q.1.size ≤ 1000000) :
    SeqStopsK Fence.wide n Try.prog 90 #[.pointer (some ⟨Bm, 0, none⟩), .pointer (some ⟨Bx, 0, none⟩)] enI KeepN (fun ys => ys = Tr.und px t) (fun pre => pre <+: Tr.und px t) (Tr.und px t).length w := fun l J Jx W hW hJ hJx hY h0 => by
  obtain ⟨p, hb, ht⟩ := hM.below hW
  have d0 : W.drew.cell? ⟨Bm, 0, none⟩ = some (.pointer (some ⟨g, 0, none⟩)) := (hW.cell (p := ⟨Bm, 0, none⟩) hBm).trans cm
  have d1 : W.drew.cell? ⟨Bx, 0, none⟩ = some (.string px) := (hW.cell (p := ⟨Bx, 0, none⟩) hBx).trans cx
  have d2 : W.drew.cell? ⟨g, 0, none⟩ = some (.pointer p) := hb.cell 0
  have hJd : J [] W.drew := hJ _ _ _ none h0 ⟨rfl, rfl, rfl, Nat.le_refl _, fun _ _ _ => rfl⟩ (fun r e => by cases e)
  have hp := under_in l (Tr.und px t).length W.heap.size J Jx hJ (fun m pre x W1 hj hl => YieldAt_anyDepth rfl m (hY pre x W1 hj hl)) px hpx t (n - 1) p [] W.drew (ht.keep (KeepN.drew W)) hks hJd (by simp)
  have hp2 := hp.mono (R' := fun e W' => ∃ bb, e = .returned (.bool bb) ∧ ((∃ ys, ys = Tr.und px t ∧ J ys W') ∨ (∃ pre, pre <+: Tr.und px t ∧ Jx pre W'))) (fun e W1 h => h.elim (fun ⟨he, hj, _⟩ => ⟨true, he, .inl ⟨_, rfl, by simpa using hj⟩⟩) (fun ⟨he, q, hq, hx⟩ => ⟨false, he, .inr ⟨q, hq, by simpa using hx⟩⟩))
  clear hp
  have hd : Fence.wide.depth = none := rfl
  have hall : ∀ f, Fence.wide.fn f := fun _ => trivial
  have hro : Fence.wide.round = none := rfl
  refine callsIn_of_wp Try.func90 rfl (hall _) ?_ hro
  simp only [Try.ntmps90, List.size_toArray, List.length_cons, List.length_nil, Nat.reduceAdd, Nat.reduceSub, Array.replicate_succ, Array.replicate_zero, List.push_toArray, List.append_toArray, List.nil_append, List.cons_append]
  gi_wp2
  gi_region_with (gi_at_call 91; refine hp2.mono ?_; clear hp2; rintro e W1 ⟨bb, rfl, hh⟩)
  all_goals (
    gi_wp2
    go_end0
    exact ⟨⟨_, rfl⟩, hh⟩)
theorem under_fn (g : Nat) (px : ByteArray) (w : World) : Calls Try.prog 82 #[.pointer (some ⟨g, 0, none⟩), .string px] w fun e w' => e = .returned (.func (.func 90) #[] #[.pointer (some ⟨w.heap.size, 0, none⟩), .pointer (some ⟨w.heap.size + 1, 0, none⟩)]) ∧ w' = (w.alloc (.cells #[.pointer (some ⟨g, 0, none⟩)] 116)).alloc (.cells #[.string px] 9) := by
  go_enter Try.func82, Try.ntmps82
  go_wp2
  go_ret
  exact ⟨rfl, rfl⟩
theorem all_fn (g : Nat) (w : World) : Calls Try.prog 69 #[.pointer (some ⟨g, 0, none⟩)] w fun e w' => e = .returned (.func (.func 90) #[] #[.pointer (some ⟨w.heap.size, 0, none⟩), .pointer (some ⟨w.heap.size + 1, 0, none⟩)]) ∧ w' = (w.alloc (.cells #[.pointer (some ⟨g, 0, none⟩)] 116)).alloc (.cells #[.string .empty] 9) := by
  have H := Lib.hid (under_fn g .empty w)
  go_enter Try.func69, Try.ntmps69
  go_wp2_with fail
  refine H.out.mono ?_
  rintro _ wz ⟨rfl, hw0⟩
  replace hw0 := hw0.symm
  subst hw0
  go_wp2
  go_ret
  exact ⟨rfl, rfl⟩
end Go.Proofs.Ythcjbljkokflgaa.OI
/- The collection: changed (maths; a range over a function whose variable lies in a box). -/
namespace Go.Proofs.Ythcjbljkokflgaa
open Go.RowKit
open Go.Lib
open Go.Shelf
attribute [local go_sem] Oper.semAt_some
set_option linter.unusedVariables false
set_option linter.unusedSimpArgs false
set_option maxRecDepth 100000
/-- The last token of each UID, seen from the end. -/
def accS (M : List (ByteArray × Int)) (c : Chg) : List (ByteArray × Int) := if (getL c.2 M).isSome = true then M else insL c.2 c.1 M
def accL (l : List Chg) : List (ByteArray × Int) := l.foldl accS []
def lastL (T : Int) (l : List Chg) : List (ByteArray × Int) := accL (l.takeWhile fun c => decide (T < c.1))
theorem accL_snoc (l : List Chg) (c : Chg) : accL (l ++ [c]) = accS (accL l) c := by unfold accL; rw [List.foldl_append]; rfl
theorem acc_srt : ∀ (l : List Chg) (M : List (ByteArray × Int)), Srt M → Srt (l.foldl accS M)
  | [], M, h => h
  | c :: l, M, h => acc_srt l _ (by
    unfold accS
    split
    · exact h
    · exact h.ins)
theorem accL_srt (l : List Chg) : Srt (accL l) := acc_srt l [] List.Pairwise.nil
theorem acc_len : ∀ (l : List Chg) (M : List (ByteArray × Int)), Srt M → (l.foldl accS M).length ≤ M.length + l.length
  | [], M, h => by simp
  | c :: l, M, h => by
    have h2 : Srt (accS M c) := acc_srt [c] M h
    have := acc_len l _ h2
    have e : (accS M c).length ≤ M.length + 1 := by
      unfold accS
      split
      · omega
      · rw [insL_len h]; split <;> omega
    simp only [List.foldl_cons, List.length_cons]
    omega
theorem accL_len (l : List Chg) : (accL l).length ≤ l.length := by have := acc_len l [] List.Pairwise.nil; unfold accL; simpa using this
theorem acc_mem : ∀ (l : List Chg) (M : List (ByteArray × Int)) (q : ByteArray × Int), q ∈ l.foldl accS M → q ∈ M ∨ (q.2, q.1) ∈ l
  | [], M, q, h => .inl h
  | c :: l, M, q, h => by
    rcases acc_mem l _ q h with h | h
    · unfold accS at h
      split at h
      · exact .inl h
      · rcases insL_mem h with h | h
        · subst h; exact .inr List.mem_cons_self
        · exact .inl h
    · exact .inr (List.mem_cons_of_mem _ h)
theorem accL_mem {l : List Chg} {q : ByteArray × Int} (h : q ∈ accL l) : (q.2, q.1) ∈ l := by
  rcases acc_mem l [] q h with h | h
  · cases h
  · exact h
theorem last_all {T : Int} {l : List Chg} (h : ∀ c ∈ l, T < c.1) : lastL T l = accL l := by
  unfold lastL
  congr 1
  have e := List.takeWhile_append_of_pos (p := fun c : Chg => decide (T < c.1)) (l₁ := l) (l₂ := []) (fun a ha => decide_eq_true (h a ha))
  simpa using e
theorem last_stop {T : Int} {l pre : List Chg} {x : Chg} (hp : pre ++ [x] <+: l) (h : ∀ c ∈ pre, T < c.1) (hx : x.1 ≤ T) : lastL T l = accL pre := by
  obtain ⟨r, rfl⟩ := hp
  unfold lastL
  congr 1
  rw [List.append_assoc, List.takeWhile_append_of_pos (fun a ha => decide_eq_true (h a ha)), List.singleton_append, List.takeWhile_cons_of_neg (by simpa using hx), List.append_nil]
theorem lastL_mem {T : Int} {l : List Chg} {q : ByteArray × Int} (h : q ∈ lastL T l) : (q.2, q.1) ∈ l := (List.takeWhile_sublist _).subset (accL_mem h)
theorem lastL_srt (T : Int) (l : List Chg) : Srt (lastL T l) := accL_srt _
/-- What is told of each. -/
def chgI (L : LK) (p : ByteArray × Int) : It := match getL p.1 L with | some k => ⟨p.1, k.1, false, k.2⟩ | none => ⟨p.1, p.2, true, .empty⟩
def chgL (L : LK) (M : List (ByteArray × Int)) : List It := M.map (chgI L)
theorem chgL_len (L : LK) (M : List (ByteArray × Int)) : (chgL L M).length = M.length := by unfold chgL; rw [List.length_map]
theorem chgL_snoc (L : LK) (M : List (ByteArray × Int)) (p : ByteArray × Int) : chgL L (M ++ [p]) = chgL L M ++ [chgI L p] := by unfold chgL; rw [List.map_append]; rfl
theorem own_base {w : World} {B B' : Nat} {e : TypeId} {k n : Nat} {v : Value} {xs : List Value} (h : w.ownsRow B' e k v n xs) (hB : B ≤ B') : w.ownsRow B e k v n xs := by
  obtain ⟨h0, h3 | ⟨b, cap, cur, e1, e2, e3, e4⟩⟩ := h
  · exact ⟨h0, .inl h3⟩
  · exact ⟨h0, .inr ⟨b, cap, cur, e1, by omega, e3, e4⟩⟩
/-- The map of the last tokens, beside what was there. -/
def Lc (W0 W : World) (m : Nat) (M : List (ByteArray × Int)) : Prop := OI.Om W m M ∧ OI.Ko W0 W m
theorem Lc.own {W0 A B : World} {m : Nat} {M : List (ByteArray × Int)} {row : Option Nat} (h : Lc W0 A m M) (hg : A.grownBy B row) (hr : ∀ r, row = some r → W0.heap.size ≤ r ∧ ∃ o : Obj, A.heap[r]? = some o ∧ o.isCells = false) : Lc W0 B m M := by
  have hne : ∀ b t cs, Blk A b t cs → B.heap[b]? = A.heap[b]? := fun b t cs hb => hg.block b hb.lt (fun e => by
    obtain ⟨_, o, ho, hc⟩ := hr b e.symm
    unfold Blk at hb
    rw [hb] at ho
    cases ho
    cases hc)
  obtain ⟨p, hp⟩ := h.1.box
  refine ⟨h.1.keep (hne m _ _ hp) (fun b cs hb => (hne b _ _ hb).trans hb), ⟨hg.os.trans h.2.os, hg.tape.trans h.2.tape, hg.output.trans h.2.output, Nat.le_trans h.2.size hg.size, fun j hj hm => (hg.block j (Nat.lt_of_lt_of_le hj h.2.size) (fun e => ?_)).trans (h.2.block j hj hm)⟩⟩
  have := (hr j e.symm).1
  omega
section
variable {P : Program} {Q : Exit → Act → World → Prop}
/-- A range over a function, in a plain walk, its variable in a box of each round's own; both ways out go on alike. -/
theorem range_plainH {α : Type} {g : Operand} {ps : Array Tmp} {assign body : Code} {a : Act} {w : World} {gf : Nat} {lb : Array Value} (hg : a.eval g = .func (.func gf) #[] lb) (eg : ∀ args w, (callFunc gf args).run P w = .ok (.enter gf args) w)
    {encs : α → Array Value} {Kp : World → World → Prop} {S Sp : List α → Prop} {N : Nat} (hseq : SeqStopsK Fence.wide 5 P gf lb encs Kp S Sp N w)
    (hKt : ∀ {A B C : World}, Kp A B → Kp B C → Kp A C) (hKb : ∀ (W : World) (l : Nat) (o o' : Obj), w.heap.size ≤ l → W.heap[l]? = some o → o.isCells = false → o.isWalk = false → Kp W (W.putObj l o')) (hps : ∀ x, (encs x).size = ps.size)
    (I : List α → World → Prop) (Ix : Code → List α → World → Prop) (hI : OwnFrom w.heap.size I) (hIx : ∀ c, OwnFrom w.heap.size (Ix c)) (h0 : I [] w)
    (id : Nat) (After : World → Prop) (hS : ∀ xs W, S xs → I xs W → After W) (hX : ∀ c pre W, Sp pre → Ix c pre W → c = .exit id ∧ After W) (hQ : ∀ a w, Q .normal a w → Q (.exit id) a w)
    (Cx : α → Nat → World → Prop) (hCx : ∀ x B, OwnFrom w.heap.size (fun (_ : Unit) W => Cx x B W)) (a₁ : α → Nat → Act)
    (hassign : ∀ (l : Nat) (pre : List α) (x : α) (W : World) (K : Act → World → Prop), I pre W → (∀ B W', KeepsFrom w.heap.size W W' → Kp W W' → I pre W' → Cx x B W' → K (a₁ x B) W') →
      assign.wpIn (Fence.wide.inRound l) 4 P (Exit.then K (fun _ _ _ => False)) { tmps := (ps.zip (encs x)).foldl (fun t (p, v) => t.setIfInBounds p v) a.tmps, defers := [] } W)
    (hbody : ∀ (l : Nat) (pre : List α) (x : α) (B : Nat) (W : World), I pre W → Cx x B W → pre.length < N → body.wpIn (Fence.wide.inRound l) 4 P (ownPostG w.heap.size Kp I Ix (pre ++ [x]) W) (a₁ x B) W)
    (hrest : ∀ (D : Nat) (W : World), w.heap.size ≤ D → After W → W.heap[D]? = some (.deferred (some [])) → Q .normal { a with defers := { target := .collected D, args := #[] } :: a.defers } W) :
    (Code.rangeFunc g ps assign body).wp P Q a w :=
  (wpIn_wide (n := 6)).1 (wpIn_rangeFunc_ownH rfl (by decide) hg trivial eg hseq hKt hKb (Below.refl _ _) hps I Ix hI hIx h0 (fun x a W => ∃ B, Cx x B W ∧ a = a₁ x B)
    (fun x a' => fun s X Y row hs hg hr => by
      obtain ⟨B, h1, h2⟩ := hs
      exact ⟨B, hCx x B () X Y row h1 hg hr, h2⟩)
    (fun l pre x W K hi hk => hassign l pre x W K hi (fun B W' h1 h2 h3 h4 => hk _ W' h1 h2 h3 ⟨B, h4, rfl⟩))
    (fun l pre x a' W _ _ hi hc hlt => by
      obtain ⟨B, h1, rfl⟩ := hc
      exact hbody l pre x B W hi h1 hlt)
    (fun D xs W hD hs hi hk => hrest D W hD (hS xs W hs hi) hk) (fun D c pre W hD hs hi hk => by
      obtain ⟨rfl, h⟩ := hX c pre W hs hi
      exact wpIn_exit (hQ _ _ (hrest D W hD h hk))))
end
end Go.Proofs.Ythcjbljkokflgaa
namespace Go.Proofs.Ythcjbljkokflgaa
open Go.RowKit
open Go.Lib
open Go.Shelf
attribute [local go_sem] Oper.semAt_some
set_option linter.unusedVariables false
set_option linter.unusedSimpArgs false
set_option maxRecDepth 100000
set_option maxHeartbeats 8000000 in
theorem changed_any {w : World} {B0 g : Nat} {c : Cs} (hC : Cl w B0 g c) (hF : 0 < c.ring.length → c.F < c.ring.length) (hn : c.ring.length ≤ 40000) (hkr : ∀ q ∈ c.ring, q.2.size ≤ 1000000) (T : Int) :
    Calls Try.prog 51 #[.pointer (some ⟨g, 0, none⟩), .int .i64 T] w fun e w' => ∃ U M, M = lastL T (ord c.F c.ring).reverse ∧ e = .returned U ∧ w'.ownsRow w.heap.size 62 4 U M.length (itsC (chgL c.L M)) ∧ Below w.heap.size w w' := by
  obtain ⟨i0, hi, hz0, hz1, hz2⟩ := info_parts infoIt
  have HC := Lib.hid hC
  obtain ⟨m0, R, hbx, hom, hrg, -, -⟩ := hC
  obtain ⟨gk, A, cap, hRb, hgk⟩ := rb_of hrg hF
  obtain ⟨n, hN⟩ : ∃ n, c.ring.length = n := ⟨_, rfl⟩
  obtain ⟨xs, hxs⟩ : ∃ xs, ord c.F c.ring = xs := ⟨_, rfl⟩
  have HXS := Lib.hid (show ∀ q ∈ xs, q.2.size ≤ 1000000 from fun q hq => hkr q (by
    rw [← hxs] at hq
    unfold ord at hq
    rcases List.mem_append.1 hq with h | h
    · exact List.mem_of_mem_drop h
    · exact List.mem_of_mem_take h))
  rw [hN, hxs] at hRb
  rw [hN] at hn
  rw [hxs]
  have HRB := Lib.hid hRb
  have HBX := Lib.hid hbx
  have HOM := Lib.hid hom
  have HXL := Lib.hid (show xs.length = n from hRb.xln)
  clear hbx hom hrg hRb hF hkr hxs hN hgk
  obtain ⟨N, hNN⟩ : ∃ N, w.heap.size = N := ⟨_, rfl⟩
  obtain ⟨wA, hwA⟩ : ∃ wA, (w.alloc (.cells #[.pointer (some ⟨g, 0, none⟩)] 25)).alloc (.cells #[.int .i64 T] 2) = wA := ⟨_, rfl⟩
  have HBA := Lib.hid (show Below w.heap.size w wA from hwA ▸ ((Below.refl _ w).alloc (Nat.le_refl _) _).alloc (by simp) _)
  have HSA := Lib.hid (show wA.heap.size = N + 1 + 1 by rw [← hwA]; simp; omega)
  have HBC := Lib.hid (show Blk wA N 25 #[.pointer (some ⟨g, 0, none⟩)] from hwA ▸ hNN ▸ (Blk.new w _ _).alloc _)
  have HBT := Lib.hid (show Blk wA (N + 1) 2 #[.int .i64 T] from by
    have := Blk.new (w.alloc (.cells #[.pointer (some ⟨g, 0, none⟩)] 25)) 2 #[.int .i64 T]
    rw [World.size_alloc, hwA, hNN] at this
    exact this)
  have HNN := Lib.hid hNN
  have HNW := Lib.hid (fun W => OI.om_new W)
  refine calls_marks Try.func51 rfl ?_
  simp only [Try.ntmps51, List.size_toArray, List.length_cons, List.length_nil, Nat.reduceAdd, Nat.reduceSub, Array.replicate_succ, Array.replicate_zero, List.push_toArray, List.append_toArray, List.nil_append, List.cons_append]
  go_wp2_with fail
  try rw [hwA]
  clear hwA
  refine (HNW.out _).mono ?_
  rintro _ w1 ⟨m, rfl, h1, h2, h3⟩
  have HM1 := Lib.hid h1
  have HB1 := Lib.hid h2
  have HMG := Lib.hid h3
  clear h1 h2 h3 HNW
  obtain ⟨P0, hP0⟩ : ∃ P0, w1.heap.size = P0 := ⟨_, rfl⟩
  have HPA := Lib.hid (show N + 1 + 1 ≤ P0 ∧ N + 1 + 1 ≤ m ∧ m < P0 by have := HB1.out.size; have := HSA.out; have := HMG.out; have := HM1.out.lt; omega)
  have HBW1 := Lib.hid (show Below w.heap.size w w1 from HBA.out.trans (HB1.out.mono (by have := HSA.out; omega)))
  obtain ⟨w2, hw2⟩ : ∃ w2, w1.alloc (.cells #[.pointer (some ⟨m, 0, none⟩)] 116) = w2 := ⟨_, rfl⟩
  have HB2 := Lib.hid (show Below P0 w1 w2 from hw2 ▸ (Below.refl _ w1).alloc (by omega) _)
  have HS2 := Lib.hid (show w2.heap.size = P0 + 1 by rw [← hw2, World.size_alloc, hP0])
  have HP2 := Lib.hid (show Blk w2 P0 116 #[.pointer (some ⟨m, 0, none⟩)] from hw2 ▸ hP0 ▸ Blk.new w1 _ _)
  have HPP := Lib.hid hP0
  have HB12 := Lib.hid (show Below w1.heap.size w1 w2 from HB2.out.mono (by rw [hP0]; exact Nat.le_refl _))
  have HBC2 := Lib.hid (show Blk w2 N 25 #[.pointer (some ⟨g, 0, none⟩)] from (HBC.out.below HB1.out HBC.out.lt).below HB12.out (HBC.out.below HB1.out HBC.out.lt).lt)
  have HBT2 := Lib.hid (show Blk w2 (N + 1) 2 #[.int .i64 T] from (HBT.out.below HB1.out HBT.out.lt).below HB12.out (HBT.out.below HB1.out HBT.out.lt).lt)
  have HBW2 := Lib.hid (show Below w.heap.size w w2 from HBW1.out.trans (HB12.out.mono HBW1.out.size))
  have HM2 := Lib.hid (HM1.out.below HB12.out)
  have bc0 : w2.cell? ⟨N, 0, none⟩ = some (.pointer (some ⟨g, 0, none⟩)) := HBC2.out.cell 0
  have bg0 : w2.cell? ⟨g, 1, none⟩ = some (.pointer (some ⟨R, 0, none⟩)) := (HBX.out.below HBW2.out HBX.out.lt).cell 1
  go_wp2_with (first
    | (go_at_call 65
       refine (back_fn R _).mono ?_
       rintro _ wz ⟨rfl, hw0⟩)
    | fail)
  obtain ⟨W0, hW0⟩ : ∃ W0, w2.alloc (.cells #[.pointer (some ⟨R, 0, none⟩)] 69) = W0 := ⟨_, rfl⟩
  have HB0 := Lib.hid (show Below w2.heap.size w2 W0 from hW0 ▸ (Below.refl _ w2).alloc (Nat.le_refl _) _)
  have HS0 := Lib.hid (show W0.heap.size = P0 + 1 + 1 by rw [← hW0, World.size_alloc, HS2.out])
  have HBM := Lib.hid (show Blk W0 w2.heap.size 69 #[.pointer (some ⟨R, 0, none⟩)] from hW0 ▸ Blk.new w2 _ _)
  have HBW0 := Lib.hid (show Below w.heap.size w W0 from HBW2.out.trans (HB0.out.mono HBW2.out.size))
  have HM0 := Lib.hid (HM2.out.below HB0.out)
  have HP0 := Lib.hid (HP2.out.below HB0.out HP2.out.lt)
  have HBC0 := Lib.hid (HBC2.out.below HB0.out HBC2.out.lt)
  have HBT0 := Lib.hid (HBT2.out.below HB0.out HBT2.out.lt)
  have HBG0 := Lib.hid (HBX.out.below HBW0.out HBX.out.lt)
  have hglt : gk < N := by have := HRB.out.glt; rw [HNN.out] at this; exact this
  have hRlt : R < N := by have := HRB.out.box.lt; rw [HNN.out] at this; exact this
  have hRB0 := HRB.out.keep (HBW0.out.block R HRB.out.box.lt) (HBW0.out.block gk HRB.out.glt)
  have hPA := HPA.out
  rw [hW0] at hw0 ⊢
  clear hw0 hW0 hw2 hP0 bc0 bg0
  have hst := back_stops 5 R gk w2.heap.size n c.F c.lmost A cap xs W0 hRB0 (by omega) HBM.out
  refine range_plainH (gf := 78) (lb := #[.pointer (some ⟨w2.heap.size, 0, none⟩)]) rfl (enters_of Try.func78 (by kernel_rfl) rfl) hst (fun h k => h.trans k) (fun W l o o' hl h1 h2 h3 b hb => World.putObj_heap_other (by rw [HS0.out] at hl; have := HS2.out; simp at hb; omega)) (fun _ => rfl)
    (fun pre W => Lc W0 W m (accL pre) ∧ ∀ q ∈ pre, T < q.1)
    (fun c ys W => c = .exit 0 ∧ ∃ pre x, ys = pre ++ [x] ∧ Lc W0 W m (accL pre) ∧ (∀ q ∈ pre, T < q.1) ∧ x.1 ≤ T)
    (fun s A B row hs hg hr => ⟨hs.1.own hg hr, hs.2⟩)
    (fun c s A B row hs hg hr => by
      obtain ⟨h1, pre, x, h2, h3, h4⟩ := hs
      exact ⟨h1, pre, x, h2, h3.own hg hr, h4⟩)
    ⟨⟨HM0.out, OI.Ko.of (Below.refl _ _)⟩, fun q hq => by cases hq⟩
    0 (fun W => Lc W0 W m (lastL T xs.reverse))
    (fun ys W hS hI => ?S1) (fun c pre W hSp hIx => ?X1) (fun a w h => by simpa [Exit.inBlock] using h)
    (fun x B W => Blk W B 72 #[.int .i64 x.1, .string x.2] ∧ W0.heap.size ≤ B)
    (fun x B _ X Y row hs hg hr => ⟨hs.1.grown hg (fun e => by
        obtain ⟨_, o, ho, hc⟩ := hr B e.symm
        have h1 := hs.1
        unfold Blk at h1
        rw [h1] at ho
        cases ho
        cases hc), hs.2⟩) ?a1 ?assign ?body ?rest
  case S1 =>
    subst hS
    rw [last_all hI.2]
    exact hI.1
  case X1 =>
    obtain ⟨h1, pre', x, rfl, h2, h3, h4⟩ := hIx
    rw [last_stop hSp h3 h4]
    exact ⟨h1, h2⟩
  case assign =>
    rintro l pre x W K ⟨hlc, hall⟩ hK
    obtain ⟨nn, hn2⟩ : ∃ nn, W.heap.size = nn := ⟨_, rfl⟩
    obtain ⟨W1, hW1⟩ : ∃ W1, W.alloc (.cells #[.int .i64 0, .string { data := #[] }] 72) = W1 := ⟨_, rfl⟩
    have HC1 := Lib.hid (show Below W.heap.size W W1 from hW1 ▸ (Below.refl _ W).alloc (Nat.le_refl _) _)
    have HY1 := Lib.hid (show Blk W1 nn 72 #[.int .i64 0, .string .empty] from hn2 ▸ hW1 ▸ Blk.new W 72 _)
    have y0 := HY1.out.cell 0
    have y1 := HY1.out.cell 1
    have f0 := HY1.out.frozen 0
    have f1 := HY1.out.frozen 1
    have HY2 := Lib.hid ((HY1.out.set_ 0 (.int .i64 x.1)).set_ 1 (.string x.2))
    have HC2 := Lib.hid (((HC1.out.mono (Nat.le_of_eq hn2.symm)).setCell (p := ⟨nn, 0, none⟩) (Nat.le_refl _) (.int .i64 x.1)).setCell (p := ⟨nn, 1, none⟩) (Nat.le_refl _) (.string x.2))
    have HK := Lib.hid hK
    have HLC := Lib.hid hlc
    have HALL := Lib.hid hall
    have HSZ := Lib.hid (show W0.heap.size ≤ nn by have := hlc.2.size; omega)
    clear hK hlc hall
    simp only [enC]
    gi_wp2
    have hC' := HC2.out.mono (Nat.le_of_eq hn2)
    exact HK.out nn _ (keepsFrom_below hC') (fun b hb => hC'.block b (by have := HSZ.out; rw [HS0.out] at this; have := HS2.out; simp at hb; omega)) ⟨⟨HLC.out.1.below hC', HLC.out.2.trans (OI.Ko.of hC')⟩, HALL.out⟩ ⟨HY2.out, HSZ.out⟩
  case body =>
    rintro l pre x B W ⟨hlc, hall⟩ ⟨hbx, hBs⟩ hplt
    have hblk : ∀ b t cs, Blk W0 b t cs → b ≠ m → Blk W b t cs := fun b t cs hb hm => (hlc.2.block b hb.lt hm).trans hb
    have b0 : W.cell? ⟨B, 0, none⟩ = some (.int .i64 x.1) := hbx.cell 0
    have b1 : W.cell? ⟨B, 1, none⟩ = some (.string x.2) := hbx.cell 1
    have t0 : W.cell? ⟨N + 1, 0, none⟩ = some (.int .i64 T) := (hblk _ _ _ HBT0.out (by omega)).cell 0
    have p0 : W.cell? ⟨P0, 0, none⟩ = some (.pointer (some ⟨m, 0, none⟩)) := (hblk _ _ _ HP0.out (by omega)).cell 0
    have HLC := Lib.hid hlc
    have HALL := Lib.hid hall
    by_cases hT : x.1 ≤ T
    · have HT := Lib.hid hT
      clear hlc hall hbx hblk
      gi_wp2
      exact ⟨KeepsFrom.refl _ _, rfl, pre, x, rfl, HLC.out, HALL.out, HT.out⟩
    · have HAL2 := Lib.hid (show ∀ q ∈ pre ++ [x], T < q.1 from fun q hq => by
        rcases List.mem_append.1 hq with h | h
        · exact hall q h
        · rw [List.mem_singleton.1 h]; omega)
      have hln : (accL pre).length ≤ 40000 := by have := accL_len pre; omega
      obtain ⟨o, ho⟩ : ∃ o, getL x.2 (accL pre) = o := ⟨_, rfl⟩
      have HGT := Lib.hid (OI.om_get hlc.1 x.2 o ho)
      cases o with
      | some u =>
        have HAC := Lib.hid (show accL (pre ++ [x]) = accL pre by rw [accL_snoc]; unfold accS; rw [ho]; rfl)
        simp only [OI.ov, Option.isSome_some, Option.getD_some] at HGT
        clear hlc hall hbx hblk ho
        gi_wp2_with fail
        refine ⟨trivial, (CallsIn.inRound _ (callsIn_wide.2 HGT.out)).mono ?_⟩
        rintro _ wz ⟨rfl, hw0⟩
        replace hw0 := hw0.symm
        subst hw0
        gi_wp2
        exact ⟨KeepsFrom.refl _ _, Kb.refl _ _, by rw [HAC.out]; exact HLC.out, HAL2.out⟩
      | none =>
        have HPT := Lib.hid (OI.om_put hlc.1 hln x.2 x.1 false (by rw [ho]; rfl))
        have HAC := Lib.hid (show accL (pre ++ [x]) = insL x.2 x.1 (accL pre) by rw [accL_snoc]; unfold accS; rw [ho]; rfl)
        simp only [OI.ov, Option.isSome_none, Option.getD_none] at HGT
        clear hlc hall hbx hblk ho
        gi_wp2_with fail
        refine ⟨trivial, (CallsIn.inRound _ (callsIn_wide.2 HGT.out)).mono ?_⟩
        rintro _ wz ⟨rfl, hw0⟩
        replace hw0 := hw0.symm
        subst hw0
        gi_wp2_with fail
        refine ⟨trivial, (CallsIn.inRound _ (callsIn_wide.2 HPT.out)).mono ?_⟩
        rintro _ wz ⟨rfl, ho1, hk1⟩
        have HO1 := Lib.hid ho1
        have HK1 := Lib.hid hk1
        clear ho1 hk1
        gi_wp2
        exact ⟨⟨HK1.out.size, fun k o hB hk _ => (HK1.out.block k (Array.getElem?_eq_some_iff.1 hk).1 (by have := HS0.out; omega)).trans hk⟩, fun b hb => HK1.out.block b (by have := HLC.out.2.size; have := HS0.out; have := HS2.out; simp at hb; omega) (by have := HS2.out; simp at hb; omega), ⟨by rw [HAC.out]; exact HO1.out, HLC.out.2.trans HK1.out⟩, HAL2.out⟩
  case rest =>
    intro D W3 hD hA hKD
    obtain ⟨M, hM⟩ : ∃ M, lastL T xs.reverse = M := ⟨_, rfl⟩
    rw [hM] at hA
    have HMM := Lib.hid hM.symm
    have hml : M.length ≤ n := by
      rw [← hM, ← HXL.out]
      unfold lastL
      exact Nat.le_trans (accL_len _) (Nat.le_trans (List.takeWhile_sublist _).length_le (by rw [List.length_reverse]; exact Nat.le_refl _))
    have hks : ∀ q ∈ M, q.1.size ≤ 1000000 := fun q hq => by
      rw [← hM] at hq
      exact HXS.out _ (List.mem_reverse.1 (lastL_mem hq))
    have HLC := Lib.hid hA
    have HLN := Lib.hid (OI.om_len hA.1)
    obtain ⟨t, hMt, rfl, hS⟩ := hA.1
    have HMT := Lib.hid hMt
    have HKD := Lib.hid hKD
    have HDD := Lib.hid hD
    have hs03 := hA.2.size
    have HBW3 := Lib.hid (show Below w.heap.size w W3 from HBW0.out.trans (hA.2.below (by have := HNN.out; omega) HBW0.out.size))
    have HP3 := Lib.hid (show Blk W3 P0 116 #[.pointer (some ⟨m, 0, none⟩)] from (hA.2.block P0 HP0.out.lt (by omega)).trans HP0.out)
    have HBC3 := Lib.hid (show Blk W3 N 25 #[.pointer (some ⟨g, 0, none⟩)] from (hA.2.block N HBC0.out.lt (by omega)).trans HBC0.out)
    obtain ⟨w4, hmk, hrow4, hg4⟩ := run_make_own (P := Try.prog) W3 W3.heap.size 40 62 i0 _ 4 Try.underlying40 hi hz0 hz1 .i64 .i64 t.ino.length (by rw [hz2]; omega) (by unfold maxLen; omega) (Nat.le_refl _)
    have HB4 := Lib.hid (show Below W3.heap.size W3 w4 from ⟨hg4.os, hg4.tape, hg4.output, hg4.size, fun j hj => hg4.block j hj (by simp)⟩)
    have HR4 := Lib.hid hrow4
    obtain ⟨w5, hw5⟩ : ∃ w5, w4.alloc (.cells #[.slice (some ⟨W3.heap.size, 0, none⟩) 0 t.ino.length] 40) = w5 := ⟨_, rfl⟩
    have HB5 := Lib.hid (show Below W3.heap.size W3 w5 from hw5 ▸ HB4.out.alloc HB4.out.size _)
    have p3 : W3.cell? ⟨P0, 0, none⟩ = some (.pointer (some ⟨m, 0, none⟩)) := HP3.out.cell 0
    have p5 : w5.cell? ⟨P0, 0, none⟩ = some (.pointer (some ⟨m, 0, none⟩)) := (HP3.out.below HB5.out HP3.out.lt).cell 0
    have hnI : (t.ino.length : Int) ≤ 40000 := by omega
    clear hA hMt hM hrow4 hKD hD hg4
    go_wp2_with (first
      | (go_at_call 68; refine HLN.out.mono ?_; rintro _ wz ⟨rfl, hw0⟩; replace hw0 := hw0.symm; subst hw0)
      | (go_at_call 69; refine (OI.all_fn m _).mono ?_; rintro _ wz ⟨rfl, hw0⟩)
      | fail)
    obtain ⟨W6, hW6⟩ : ∃ W6, (w5.alloc (.cells #[.pointer (some ⟨m, 0, none⟩)] 116)).alloc (.cells #[.string .empty] 9) = W6 := ⟨_, rfl⟩
    obtain ⟨Q, hQ⟩ : ∃ Q, w4.heap.size = Q := ⟨_, rfl⟩
    have hsQ : W3.heap.size ≤ Q := hQ ▸ HB4.out.size
    have hs5 : w5.heap.size = Q + 1 := by rw [← hw5, World.size_alloc, hQ]
    have bO : Boxed W6 Q 40 (.slice (some ⟨W3.heap.size, 0, none⟩) 0 t.ino.length) := by
      rw [← hW6, ← hw5, ← hQ]; exact ((Boxed.new w4 40 _).alloc _).alloc _
    have bM : Boxed W6 w5.heap.size 116 (.pointer (some ⟨m, 0, none⟩)) := by
      rw [← hW6]; exact (Boxed.new w5 116 _).alloc _
    have bX : Boxed W6 (w5.heap.size + 1) 9 (.string .empty) := by
      have := Boxed.new (w5.alloc (.cells #[.pointer (some ⟨m, 0, none⟩)] 116)) 9 (.string .empty)
      rw [World.size_alloc] at this
      rw [← hW6]; exact this
    have hB6 : Below w5.heap.size w5 W6 := by
      rw [← hW6]; exact ((Below.refl _ w5).alloc (Nat.le_refl _) _).alloc (by simp) _
    have hBw : Below W3.heap.size W3 W6 := HB5.out.trans (hB6.mono HB5.out.size)
    have hrow6 : W6.ownsRow W3.heap.size 62 4 (.slice (some ⟨W3.heap.size, 0, none⟩) 0 t.ino.length) 0 [] := by
      rw [← hW6, ← hw5]; exact ((HR4.out.alloc _).alloc _).alloc _
    have hM6 : OI.Mt W6 m t := HMT.out.below hBw
    have hU : Tr.und .empty t = t.ino := Tr.und_empty t
    have hst2 := OI.und_stops 5 w5.heap.size (w5.heap.size + 1) m t .empty (by decide) W6 bM.lt bX.lt bM.cell bX.cell hM6 hks
    rw [hU] at hst2
    rw [hW6] at hw0 ⊢
    clear hw0 p3 p5 hmk hU
    refine range_plain (gf := 90) (lb := #[.pointer (some ⟨w5.heap.size, 0, none⟩), .pointer (some ⟨w5.heap.size + 1, 0, none⟩)]) rfl (enters_of Try.func90 (by kernel_rfl) rfl)
      hst2 (fun h k => h.trans k) (fun W l o o' hl h1 h2 h3 => OI.KeepN.put (w := W6) W l o o' hl h1 h2 h3) (fun _ => rfl)
      (fun pre W => (∃ v, Boxed W Q 40 v ∧ W.ownsRow W3.heap.size 62 4 v pre.length (itsC (chgL c.L pre)) ∧ True) ∧ Below W3.heap.size W3 W)
      (fun _ _ _ => False)
      (OwnFrom.and (Own.from (holdsRow_own W3.heap.size Q 40 62 4 (fun pre => pre.length) (fun pre => itsC (chgL c.L pre)) (fun _ _ => True)) _) (ownFrom_below (Nat.le_refl _) hBw.size))
      (fun _ _ _ _ _ hs _ _ => hs)
      ⟨⟨_, bO, hrow6, trivial⟩, hBw⟩
      2 (fun W => (∃ v, Boxed W Q 40 v ∧ W.ownsRow W3.heap.size 62 4 v t.ino.length (itsC (chgL c.L t.ino)) ∧ True) ∧ Below W3.heap.size W3 W)
      (fun ys W hS hI => by subst hS; exact hI) (fun c pre W hSp hIx => hIx.elim) (fun a w h => by simpa [Exit.inBlock] using h) ?a2 ?assign2 ?body2 ?rest2
    case assign2 =>
      intro l x W K hK
      simp only [OI.enI]
      gi_wp2
      exact hK
    case body2 =>
      rintro l pre x W ⟨⟨v, hv, hrow, _⟩, hB⟩ hplt
      have HV := Lib.hid hv
      have HROW := Lib.hid hrow
      have HBB := Lib.hid hB
      have HBWW := Lib.hid (show Below w.heap.size w W from HBW3.out.trans (hB.mono HBW3.out.size))
      have q0 : W.cell? ⟨N, 0, none⟩ = some (.pointer (some ⟨g, 0, none⟩)) := (HBC3.out.below hB HBC3.out.lt).cell 0
      have q1 : W.cell? ⟨g, 0, none⟩ = some (.pointer (some ⟨m0, 0, none⟩)) := (HBX.out.below HBWW.out HBX.out.lt).cell 0
      obtain ⟨o, ho⟩ : ∃ o, getL x.1 c.L = o := ⟨_, rfl⟩
      have HGT := Lib.hid (OC.om_get (HOM.out.below HBWW.out) x.1 o ho)
      have HSW := Lib.hid (show W3.heap.size ≤ W.heap.size from hB.size)
      have hpl2 : pre.length < 40000 := by omega
      clear hv hrow hB
      cases o with
      | some k =>
        have HCG := Lib.hid (show chgI c.L x = ⟨x.1, k.1, false, k.2⟩ by unfold chgI; rw [ho])
        simp only [OC.ov, Option.isSome_some, Option.getD_some] at HGT
        have HIT := Lib.hid (fun W => item_any x.1 k.1 k.2 W)
        clear ho
        gi_wp2_with fail
        refine ⟨trivial, (CallsIn.inRound _ (callsIn_wide.2 HGT.out)).mono ?_⟩
        rintro _ W1 ⟨rfl, hb1⟩
        obtain ⟨W2, hW2⟩ : ∃ W2, W1.alloc (.cells #[.int .i64 k.1, .string k.2] 68) = W2 := ⟨_, rfl⟩
        have HF0 := Lib.hid (show Below W.heap.size W W2.drew from hW2 ▸ ((hb1.alloc hb1.size _).drew))
        have HBX2 := Lib.hid (show Blk W2 W1.heap.size 68 #[.int .i64 k.1, .string k.2] from hW2 ▸ Blk.new W1 _ _)
        have HSW1 := Lib.hid (show W1.heap.size + 1 = W2.heap.size by rw [← hW2, World.size_alloc])
        have HVH := Lib.hid (fun W' (hb : Below W.heap.size W W') => (boxed_below HV.out hb).cell)
        have HBH := Lib.hid (fun W' (hb : Below W2.heap.size W2 W') => (⟨(HBX2.out.below hb HBX2.out.lt).cell 0, (HBX2.out.below hb HBX2.out.lt).cell 1⟩ : W'.cell? ⟨W1.heap.size, 0, none⟩ = some (.int .i64 k.1) ∧ W'.cell? ⟨W1.heap.size, 1, none⟩ = some (.string k.2)))
        have HG0 := Lib.hid ((Below.refl W2.heap.size W2).drew)
        clear hb1
        gi_wp2
        refine wpIn_region_E [([5], fun w' => w'.cell? ⟨Q, 0, none⟩ = some v), ([3], fun w' => w'.cell? ⟨W1.heap.size, 0, none⟩ = some (.int .i64 k.1) ∧ w'.cell? ⟨W1.heap.size, 1, none⟩ = some (.string k.2))] (by kernel_rfl) (by kernel_rfl) ⟨fun _ => HVH.out _ HF0.out, fun _ => HBH.out _ HG0.out, trivial⟩ (fun hHeld => ?_)
        refine wpAnyE_load (i := 0) _ _ (v := ?_) rfl (by kernel_rfl) List.mem_cons_self (by kernel_rfl) (by kernel_rfl) (by kernel_rfl) (by kernel_rfl) (fun _ _ _ h => h) (Or.inl ⟨by rfl, ?_⟩) hHeld (fun hHeld => ?_)
        rotate_left
        · (intro w hSw; (try dsimp only at hSw); (try simp only [List.getElem_toArray, List.getElem_cons_succ, List.getElem_cons_zero]); go_simp; try with_reducible rfl)
        try simp only [List.getElem_toArray, List.getElem_cons_succ, List.getElem_cons_zero, Act.put, List.setIfInBounds_toArray, List.set_cons_zero, List.set_cons_succ]
        refine wpAnyE_take (i := 1) (v := ?_) rfl (by kernel_rfl) (by kernel_rfl) (by kernel_rfl) (by kernel_rfl) (fun _ _ _ h => h) (Or.inl ⟨by rfl, ?_⟩) hHeld (fun hHeld => ?_)
        rotate_left
        · (intro w hSw; (try dsimp only at hSw); (try simp only [List.getElem_toArray, List.getElem_cons_succ, List.getElem_cons_zero]); go_simp; try with_reducible rfl)
        try simp only [List.getElem_toArray, List.getElem_cons_succ, List.getElem_cons_zero, Act.put, List.setIfInBounds_toArray, List.set_cons_zero, List.set_cons_succ]
        refine wpAnyE_load (i := 2) _ _ (v := ?_) rfl (by kernel_rfl) (List.mem_cons_of_mem _ List.mem_cons_self) (by kernel_rfl) (by kernel_rfl) (by kernel_rfl) (by kernel_rfl) (fun _ _ _ h => h) (Or.inl ⟨by rfl, ?_⟩) hHeld (fun hHeld => ?_)
        rotate_left
        · (intro w hSw; (try dsimp only at hSw); (try simp only [List.getElem_toArray, List.getElem_cons_succ, List.getElem_cons_zero]); go_simp; try with_reducible rfl)
        try simp only [List.getElem_toArray, List.getElem_cons_succ, List.getElem_cons_zero, Act.put, List.setIfInBounds_toArray, List.set_cons_zero, List.set_cons_succ]
        refine wpAnyE_ready (rs := [3]) (by kernel_rfl) (by simp) (AllE.cons rfl (fun K hK => ?_) AllE.nil)
        clear hHeld
        go_simp
        refine (HIT.out _).mono ?_
        rintro _ W4 ⟨rfl, hg⟩
        have HF1 := Lib.hid (HF0.out.trans (hg.below.mono HF0.out.size))
        clear hg
        refine hK.out _ _ ⟨fun _ => HVH.out _ HF1.out, (fun e => absurd e (Bool.eq_false_iff.1 (by kernel_rfl))), trivial⟩ (fun hHeld => ?_)
        clear hK K
        try simp only [List.getElem_toArray, List.getElem_cons_succ, List.getElem_cons_zero, Act.put, List.setIfInBounds_toArray, List.set_cons_zero, List.set_cons_succ]
        have HF2 := Lib.hid (HF1.out.alloc HF1.out.size (.cells #[.string x.1, .int .i64 k.1, .bool false, .string k.2] 62))
        have HN2 := Lib.hid (Blk.new W4 62 #[.string x.1, .int .i64 k.1, .bool false, .string k.2])
        have HO2 := Lib.hid (own_below HROW.out HF2.out)
        have HSX1 := Lib.hid (show W3.heap.size ≤ W4.heap.size from Nat.le_trans HBB.out.size HF1.out.size)
        have HSX2 := Lib.hid (show W3.heap.size ≤ (W4.alloc (.cells #[.string x.1, .int .i64 k.1, .bool false, .string k.2] 62)).heap.size from Nat.le_trans HBB.out.size HF2.out.size)
        refine wpAnyE_ready (rs := [4]) (by kernel_rfl) (by simp) (AllE.cons rfl (fun K hK => ?_) AllE.nil)
        clear hHeld
        go_simp
        refine hK.out _ _ ⟨fun _ => HVH.out _ HF2.out, (fun e => absurd e (Bool.eq_false_iff.1 (by kernel_rfl))), trivial⟩ (fun hHeld => ?_)
        clear hK K
        try simp only [List.getElem_toArray, List.getElem_cons_succ, List.getElem_cons_zero, Act.put, List.setIfInBounds_toArray, List.set_cons_zero, List.set_cons_succ]
        refine wpAnyE_ready (rs := [5]) (by kernel_rfl) (by simp) (AllE.cons rfl (fun K hK => ?_) AllE.nil)
        clear hHeld
        refine step_append_lies _ rfl (.tmp 57) (.tmp 61) 40 rfl W3.heap.size 62 i0 _ 4 48 Try.underlying40 hi hz0 hz1 hz2 rfl (by decide) _ pre.length _ rfl HO2.out ⟨W4.heap.size, 0, none⟩ 1 1 [.string x.1, .int .i64 k.1, .bool false, .string k.2] rfl rfl (World.news_of_block HN2.out) (by simp [Value.oneCell']) (by decide) (by unfold maxLen; omega) (by omega) HSX2.out _ rfl ?_
        intro g3 cap3 w3 hown hgr _ _
        obtain ⟨hv1, hv2, hr2, hk2, hb2⟩ := (boxed_below HV.out HF1.out).appended (by decide) (own_below HROW.out HF1.out) HSX1.out hsQ hown hgr
        have e1 := hv1.cell
        have f1 := hv1.frozen
        have HKN := Lib.hid (((OI.KeepN.of HF2.out).trans (OI.KeepN.grown HO2.out (by decide) hgr)).trans (OI.KeepN.set (g := Q) (t := 40) hv1 (by decide) 0 (.slice (some ⟨g3, 0, none⟩) (pre.length + 1) cap3)))
        have HV2 := Lib.hid hv2
        have HR2 := Lib.hid hr2
        have HK2 := Lib.hid hk2
        have HB2' := Lib.hid hb2
        clear hown hgr hv1 hv2 hr2 hk2 hb2
        refine hK.out _ _ ⟨(fun e => absurd e (Bool.eq_false_iff.1 (by kernel_rfl))), (fun e => absurd e (Bool.eq_false_iff.1 (by kernel_rfl))), trivial⟩ (fun hHeld => ?_)
        clear hK K
        try simp only [List.getElem_toArray, List.getElem_cons_succ, List.getElem_cons_zero, Act.put, List.setIfInBounds_toArray, List.set_cons_zero, List.set_cons_succ]
        refine wpAnyE_ready (rs := [6]) (by kernel_rfl) (by simp) (AllE.cons rfl (fun K hK => ?_) AllE.nil)
        clear hHeld
        go_simp
        refine hK.out _ _ ⟨(fun e => absurd e (Bool.eq_false_iff.1 (by kernel_rfl))), (fun e => absurd e (Bool.eq_false_iff.1 (by kernel_rfl))), trivial⟩ (fun hHeld => ?_)
        clear hK K
        try simp only [List.getElem_toArray, List.getElem_cons_succ, List.getElem_cons_zero, Act.put, List.setIfInBounds_toArray, List.set_cons_zero, List.set_cons_succ]
        refine wpAnyE_done (by kernel_rfl) (only_normal ?_) _
        have e : itsC (chgL c.L (pre ++ [x])) = itsC (chgL c.L pre) ++ [.string x.1, .int .i64 k.1, .bool false, .string k.2] := by rw [chgL_snoc, itsC_snoc, HCG.out]; rfl
        exact ⟨(keepsFrom_below HF1.out).trans (HK2.out.from _), HKN.out, ⟨_, HV2.out, by rw [e, List.length_append]; exact HR2.out, trivial⟩, (HBB.out.trans (HF1.out.mono HSW.out)).trans HB2'.out⟩
      | none =>
        have HCG := Lib.hid (show chgI c.L x = ⟨x.1, x.2, true, .empty⟩ by unfold chgI; rw [ho])
        simp only [OC.ov, Option.isSome_none, Option.getD_none] at HGT
        clear ho
        gi_wp2_with fail
        refine ⟨trivial, (CallsIn.inRound _ (callsIn_wide.2 HGT.out)).mono ?_⟩
        rintro _ W1 ⟨rfl, hb1⟩
        obtain ⟨W2, hW2⟩ : ∃ W2, W1.alloc (.cells #[.int .i64 0, .string .empty] 68) = W2 := ⟨_, rfl⟩
        have HF1 := Lib.hid (show Below W.heap.size W W2 from hW2 ▸ hb1.alloc hb1.size _)
        have ev := (boxed_below HV.out HF1.out).cell
        have HF2 := Lib.hid (HF1.out.alloc HF1.out.size (.cells #[.string x.1, .int .i64 x.2, .bool true, .string .empty] 62))
        have HN2 := Lib.hid (Blk.new W2 62 #[.string x.1, .int .i64 x.2, .bool true, .string .empty])
        have HO2 := Lib.hid (own_below HROW.out HF2.out)
        have HSX1 := Lib.hid (show W3.heap.size ≤ W2.heap.size from Nat.le_trans HBB.out.size HF1.out.size)
        have HSX2 := Lib.hid (show W3.heap.size ≤ (W2.alloc (.cells #[.string x.1, .int .i64 x.2, .bool true, .string .empty] 62)).heap.size from Nat.le_trans HBB.out.size HF2.out.size)
        clear hb1
        gi_wp2_with (first
          | (gi_at_builtin; refine wpListIn_append_own _ rfl _ _ 40 rfl W3.heap.size 62 i0 _ 4 48 Try.underlying40 hi hz0 hz1 hz2 rfl (by decide) _ pre.length _ rfl HO2.out ⟨W2.heap.size, 0, none⟩ 1 1 [.string x.1, .int .i64 x.2, .bool true, .string .empty] rfl rfl (World.news_of_block HN2.out) (by simp [Value.oneCell']) (by unfold maxLen; omega) (by omega) HSX2.out ?_; intro v' w3 hown hgr _; obtain ⟨g3, cap3, rfl⟩ := ownsRow_succ hown; obtain ⟨hv1, hv2, hr2, hk2, hb2⟩ := (boxed_below HV.out HF1.out).appended (by decide) (own_below HROW.out HF1.out) HSX1.out hsQ hown hgr; have e1 := hv1.cell; have f1 := hv1.frozen; have HKN := Lib.hid (((OI.KeepN.of HF2.out).trans (OI.KeepN.grown HO2.out (by decide) hgr)).trans (OI.KeepN.set (g := Q) (t := 40) hv1 (by decide) 0 (.slice (some ⟨g3, 0, none⟩) (pre.length + 1) cap3))); have HV2 := Lib.hid hv2; have HR2 := Lib.hid hr2; have HK2 := Lib.hid hk2; have HB2' := Lib.hid hb2; clear hown hgr hv1 hv2 hr2 hk2 hb2)
          | fail)
        have e : itsC (chgL c.L (pre ++ [x])) = itsC (chgL c.L pre) ++ [.string x.1, .int .i64 x.2, .bool true, .string .empty] := by rw [chgL_snoc, itsC_snoc, HCG.out]; rfl
        exact ⟨(keepsFrom_below HF1.out).trans (HK2.out.from _), HKN.out, ⟨_, HV2.out, by rw [e, List.length_append]; exact HR2.out, trivial⟩, (HBB.out.trans (HF1.out.mono HSW.out)).trans HB2'.out⟩
    case rest2 =>
      rintro D2 W7 hD2 ⟨⟨v, hv, hrow, _⟩, hB⟩ hKD2
      have hc := hv.cell
      have HROW := Lib.hid hrow
      have HBW7 := Lib.hid (show Below w.heap.size w W7 from HBW3.out.trans (hB.mono HBW3.out.size))
      have hDlt : D < W3.heap.size := (Array.getElem?_eq_some_iff.1 HKD.out).1
      have HK7 := Lib.hid ((hB.block D hDlt).trans HKD.out)
      have HK7b := Lib.hid hKD2
      have HD2 := Lib.hid (show D < D2 by have := hBw.size; omega)
      have HDW := Lib.hid (show w.heap.size ≤ D from Nat.le_trans HBW0.out.size HDD.out)
      clear hv hrow hB hKD2 hD2
      go_wp2
      have k1 : (W7.putObj D2 (.deferred none)).heap[D]? = some (.deferred (some [])) := (World.putObj_heap_other (by have := HD2.out; omega)).trans HK7.out
      refine ⟨by simp, .inl ⟨_, _, rfl, run_takeDeferred HK7b.out, by simp, .inl ⟨_, _, rfl, run_takeDeferred k1, ?_⟩⟩⟩
      have hr2 := ownsRow_putObj (ownsRow_putObj HROW.out (.deferred none) HK7b.out rfl) (.deferred none) k1 rfl
      exact ⟨_, results_tmp rfl _ _ _, v, t.ino, HMM.out, rfl, own_base hr2 HBW3.out.size, (HBW7.out.trans (belowK_b (w := w) (Nat.le_refl _) _ D2 _ _ (by have := HD2.out; have := HDW.out; omega) HK7b.out rfl rfl)).trans (belowK_b (w := w) (Nat.le_refl _) _ D _ _ HDW.out k1 rfl rfl)⟩
end Go.Proofs.Ythcjbljkokflgaa
