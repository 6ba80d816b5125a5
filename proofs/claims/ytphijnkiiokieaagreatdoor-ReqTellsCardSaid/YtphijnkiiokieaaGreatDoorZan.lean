/- Texts of one proof, joined. -/
import Derived.Test.YtphijnkiiokieaaGreatDoorZam
import Derived.LoopNIn
import Derived.LoopIn
set_option linter.unusedVariables false
set_option linter.unusedSimpArgs false
set_option maxRecDepth 100000
set_option maxHeartbeats 80000000
namespace Go.Proofs.YtphijnkiiokieaaGreatDoor
open Go.RowKit
def SeqR {α : Type} (P : Program) (gf : Nat) (lb : Array Value) (encs : α → Array Value) (Kp R : World → World → Prop) (S Sp : List α → Prop) (w : World) : Prop :=
 ∀ (l : Nat) (J Jx : List α → World → Prop) (W : World), Below w.heap.size w W → (∀ s A B, J s A → R A B → J s B) → (∀ s A B, Jx s A → R A B → Jx s B) →
  (∀ pre x W1, Sp (pre ++ [x]) → J pre W1 → YieldAt Fence.wide 4 P l (encs x) W1 fun e W' => (e = .returned (.bool true) ∧ J (pre ++ [x]) W' ∧ Kp W1 W') ∨ (e = .returned (.bool false) ∧ Jx (pre ++ [x]) W')) →
  J [] W → CallsIn Fence.wide 5 P gf (#[.func (.yield l) #[] #[]] ++ lb) W fun e W' => (∃ v, e = .returned v) ∧ ((∃ xs, S xs ∧ J xs W') ∨ ∃ pre, Sp pre ∧ Jx pre W')
section
variable {P : Program}
theorem wpIn_range_R {α : Type} {g : Operand} {ps : Array Tmp} {assign body : Code} {Q : Exit → Act → World → Prop} {a : Act} {w : World} {gf : Nat} {lb : Array Value}
  (hg : a.eval g = .func (.func gf) #[] lb) (eg : ∀ args w, (callFunc gf args).run P w = .ok (.enter gf args) w)
  {encs : α → Array Value} {Kp R : World → World → Prop} {S Sp : List α → Prop} (hseq : SeqR P gf lb encs Kp R S Sp w) (hps : ∀ x, (encs x).size = ps.size)
  (hKt : ∀ {A B C : World}, Kp A B → Kp B C → Kp A C) (hKb : ∀ (W : World) (l : Nat) (o o' : Obj), w.heap.size ≤ l → W.heap[l]? = some o → o.isCells = false → Kp W (W.putObj l o'))
  (hRk : ∀ (A B : World) (k : Nat) (o : Obj), R A B → w.heap.size ≤ k → A.heap[k]? = some o → o.isCells = false → B.heap[k]? = some o)
  (I : List α → World → Prop) (Ix : Code → List α → World → Prop) (hI : OwnFrom w.heap.size I) (hIx : ∀ c, OwnFrom w.heap.size (Ix c)) (hIR : ∀ s A B, I s A → R A B → I s B) (hIxR : ∀ c s A B, Ix c s A → R A B → Ix c s B) (h0 : I [] w) (a₁ : α → Act)
  (hassign : ∀ (l : Nat) (x : α) (W : World) (K : Act → World → Prop), K (a₁ x) W →
   assign.wpIn (Fence.wide.inRound l) 4 P (Exit.then K (fun _ _ _ => False)) { tmps := (ps.zip (encs x)).foldl (fun t (p, v) => t.setIfInBounds p v) a.tmps, defers := [] } W)
  (hbody : ∀ (l : Nat) (pre : List α) (x : α) (W : World), Sp (pre ++ [x]) → I pre W → body.wpIn (Fence.wide.inRound l) 4 P (ownPostG w.heap.size Kp I Ix (pre ++ [x]) W) (a₁ x) W)
  (hdone : ∀ (D : Nat) (xs : List α) (W : World), w.heap.size ≤ D → S xs → I xs W → W.heap[D]? = some (.deferred (some [])) → Q .normal { a with defers := { target := .collected D, args := #[] } :: a.defers } W)
  (hstop : ∀ (D : Nat) (c : Code) (pre : List α) (W : World), w.heap.size ≤ D → Sp pre → Ix c pre W → W.heap[D]? = some (.deferred (some [])) → c.wpIn Fence.wide 6 P Q { a with defers := { target := .collected D, args := #[] } :: a.defers } W) :
  (Code.rangeFunc g ps assign body).wpIn Fence.wide 6 P Q a w := by
 refine wpIn_rangeFunc fun fn hfn => ?_
 -- the record of the loop, in any state
 let rec_ : LoopState → Option Code → Obj := fun st pe => .loop { state := st, pending := pe, fn, tmps := a.tmps, params := ps, assign, body, defers := w.heap.size }
 obtain ⟨l, hl⟩ : ∃ l, w.heap.size + 1 = l := ⟨_, rfl⟩; obtain ⟨W0, hW0⟩ : ∃ W0, (w.alloc (.deferred (some []))).alloc (rec_ .ready none) = W0 := ⟨_, rfl⟩; have hlw : w.heap.size ≤ l := by omega
 -- the two blocks of book-keeping
 let Bk : Obj → World → Prop := fun r W => W.heap[l]? = some r ∧ W.heap[w.heap.size]? = some (.deferred (some []))
 have hBk0 : Bk (rec_ .ready none) W0 := by
  refine ⟨?_, ?_⟩
  ·
   rw [← hW0, ← hl]; have := World.alloc_heap_new (w.alloc (.deferred (some []))) (rec_ .ready none)
   rwa [World.size_alloc] at this
  ·
   rw [← hW0]
   exact (Below.heap_alloc _ _ _ (by simp)).trans (World.alloc_heap_new w _)
 have hbel : Below w.heap.size w W0 := by rw [← hW0]; exact ((Below.refl _ w).alloc (Nat.le_refl _) _).alloc (by simp) _
 have hI0 : I [] W0 := by rw [← hW0]; exact hI.alloc _ (hI.alloc _ h0)
 have hBkR : ∀ {r : Obj} {A B : World}, r.isCells = false → Bk r A → R A B → Bk r B := fun hr h k => ⟨hRk _ _ _ _ k hlw h.1 hr, hRk _ _ _ _ k (Nat.le_refl _) h.2 rfl⟩
 have hBkF : ∀ {r : Obj} {A B : World}, r.isCells = false → Bk r A → KeepsFrom w.heap.size A B → Bk r B := fun hr h k => ⟨k.same _ _ hlw h.1 hr, k.same _ _ (Nat.le_refl _) h.2 rfl⟩
 have hBkP : ∀ {r r' : Obj} {A : World}, Bk r A → Bk r' (A.putObj l r') := fun h => ⟨World.putObj_heap_same (Array.getElem?_eq_some_iff.1 h.1).1, (World.putObj_heap_other (by omega)).trans h.2⟩
 refine ⟨l, [{ target := .collected w.heap.size, args := #[] }], W0, { target := .fn (.func gf) lb, args := #[.func (.yield l) #[] #[]] }, W0, gf, #[.func (.yield l) #[] #[]] ++ lb, W0, ?_, ?_, fun _ _ => trivial, ?_, fun _ => by decide, ?_⟩
 ·
  rw [← hW0, ← hl]; exact run_enterLoop_outer _ _ _ _ _
 ·
  simp only [resolve, hg]
  simp [go_sem]
 ·
  simp [invoke, go_sem, eg]
 refine (hseq l (fun pre W => I pre W ∧ Bk (rec_ .ready none) W) (fun pre W => ∃ c, Ix c pre W ∧ Bk (rec_ .done (some c)) W) W0 hbel (fun s A B h k => ⟨hIR _ _ _ h.1 k, hBkR rfl h.2 k⟩)
  (fun s A B ⟨c, h1, h2⟩ k => ⟨c, hIxR _ _ _ _ h1 k, hBkR rfl h2 k⟩) ?_ ⟨hI0, hBk0⟩).mono ?_
 ·
  rintro pre x W hsp ⟨hi, hbk⟩; refine ⟨fn, _, assign, body, run_yield (P := P) (args := encs x) hbk.1 (hps x), roundIn_of_wpIn hfn (hassign l x W _ ?_)⟩; have hbk2 := hBkP (r' := rec_ .busy none) hbk; have hkp1 := hKb W l _ (rec_ .busy none) hlw hbk.1 rfl; refine ⟨_, run_beginRound hbk.1 rfl, wpIn_mono (hbody l pre x _ hsp (hI.putObj _ hi hlw hbk.1 rfl)) ?_⟩; have fin : ∀ (jump : Option Code) (W3 : World), KeepsFrom w.heap.size (W.putObj l (rec_ .busy none)) W3 →
    (Instr.endRound l jump).run P W3 = .ok (.bool jump.isNone) (W3.putObj l (rec_ (if jump.isNone then .ready else .done) jump)) ∧ Bk (rec_ .busy none) W3 ∧ Bk (rec_ (if jump.isNone then .ready else .done) jump) (W3.putObj l (rec_ (if jump.isNone then .ready else .done) jump)) := fun jump W3 h3 =>
   have hb := hBkF rfl hbk2 h3
   ⟨run_endRound (P := P) jump hb.1, hb, hBkP hb⟩
  intro e a3 W3 hp
  cases e with
  | normal =>
   obtain ⟨h1, h2, h3⟩ := hp; obtain ⟨r1, r2, r3⟩ := fin none W3 h1
   exact ⟨_, _, r1, .inl ⟨rfl, ⟨hI.putObj _ h3 hlw r2.1 rfl, r3⟩, hKt hkp1 (hKt h2 (hKb _ _ _ _ hlw r2.1 rfl))⟩⟩
  | ret =>
   obtain ⟨h1, h3⟩ := hp; obtain ⟨r1, r2, r3⟩ := fin (some .ret) W3 h1
   exact ⟨_, _, r1, .inr ⟨rfl, .ret, (hIx _).putObj _ h3 hlw r2.1 rfl, r3⟩⟩
  | exit id =>
   obtain ⟨h1, h3⟩ := hp; obtain ⟨r1, r2, r3⟩ := fin (some (.exit id)) W3 h1
   exact ⟨_, _, r1, .inr ⟨rfl, .exit id, (hIx _).putObj _ h3 hlw r2.1 rfl, r3⟩⟩
  | goto t =>
   obtain ⟨h1, h3⟩ := hp; obtain ⟨r1, r2, r3⟩ := fin (some (.goto t)) W3 h1
   exact ⟨_, _, r1, .inr ⟨rfl, .goto t, (hIx _).putObj _ h3 hlw r2.1 rfl, r3⟩⟩
  | panic ch => exact hp.elim
  | outgrown => exact hp.elim
 ·
  rintro e W2 ⟨⟨v, rfl⟩, ⟨xs, hS, hi, hbk⟩ | ⟨pre, hSp, c, hi, hbk⟩⟩
  ·
   exact ⟨none, _, run_endLoop (P := P) hbk.1 (by simp), hdone _ xs _ (Nat.le_refl _) hS (hI.putObj _ hi hlw hbk.1 rfl) ((World.putObj_heap_other (by omega)).trans hbk.2)⟩
  ·
   exact ⟨some c, _, run_endLoop (P := P) hbk.1 (by simp), hstop _ c pre _ (Nat.le_refl _) hSp ((hIx c).putObj _ hi hlw hbk.1 rfl) ((World.putObj_heap_other (by omega)).trans hbk.2)⟩
end
end Go.Proofs.YtphijnkiiokieaaGreatDoor
namespace Go.Proofs.YtphijnkiiokieaaGreatDoor
open Go.RowKit
open Go.Lib
open Go.Shelf
attribute [local go_sem] Oper.semAt_some
set_option linter.unusedVariables false
set_option linter.unusedSimpArgs false
set_option maxRecDepth 100000
def lineOf (s : ByteArray) : ByteArray × ByteArray :=
 if 0 ≤ indexByte s.data.toList 10 then (s.extract 0 ((indexByte s.data.toList 10).toNat + 1), s.extract ((indexByte s.data.toList 10).toNat + 1) s.size) else (s, ⟨#[]⟩)
def linesN : Nat → ByteArray → List ByteArray
 | 0, _ => []
 | f + 1, s => if s.size = 0 then [] else (lineOf s).1 :: linesN f (lineOf s).2
theorem lineOf_lt {s : ByteArray} (h : s.size ≠ 0) : (lineOf s).2.size < s.size := by
 unfold lineOf
 split
 ·
  simp only [ByteArray.size_extract]
  omega
 ·
  show 0 < s.size
  omega
theorem linesN_enough : ∀ (f g : Nat) (s : ByteArray), s.size ≤ f → s.size ≤ g → linesN f s = linesN g s
 | 0, 0, _, _, _ => rfl
 | 0, g + 1, s, h, _ => by unfold linesN; rw [if_pos (by omega)]
 | f + 1, 0, s, _, h => by unfold linesN; rw [if_pos (by omega)]
 | f + 1, g + 1, s, h, k => by
  unfold linesN
  by_cases h0 : s.size = 0
  ·
   rw [if_pos h0, if_pos h0]
  ·
   rw [if_neg h0, if_neg h0]; have := lineOf_lt h0; rw [linesN_enough f g _ (by omega) (by omega)]
def linesB (s : ByteArray) : List ByteArray := linesN s.size s
theorem linesB_nil {s : ByteArray} (h : s.size = 0) : linesB s = [] := by unfold linesB; rw [h]; rfl
theorem linesB_cons {s : ByteArray} (h : s.size ≠ 0) : linesB s = (lineOf s).1 :: linesB (lineOf s).2 := by
 have hl := lineOf_lt h
 unfold linesB
 rw [linesN_enough s.size (s.size - 1 + 1) s (Nat.le_refl _) (by omega)]
 conv => lhs; unfold linesN
 rw [if_neg h, linesN_enough (s.size - 1) _ _ (by omega) (Nat.le_refl _)]
def Kc (b : Nat) (A B : World) : Prop := B.heap[b]? = A.heap[b]?
structure Rc (b : Nat) (A B : World) : Prop where
 os : B.os = A.os
 tape : B.tape = A.tape
 output : B.output = A.output
 size : A.heap.size ≤ B.heap.size
 block : ∀ j, j < A.heap.size → j ≠ b → B.heap[j]? = A.heap[j]?
theorem Rc.drew {b : Nat} {A B : World} (h : Rc b A B) : Rc b A B.drew := ⟨h.os, h.tape, h.output, h.size, h.block⟩
theorem Rc.set (b : Nat) (A : World) (u : Value) : Rc b A (A.setCell ⟨b, 0, none⟩ u) := ⟨rfl, rfl, rfl, by simp [World.setCell], fun j _ h => Below.heap_setCell A ⟨b, 0, none⟩ u j h⟩
def szAt (b : Nat) (w : World) : Nat := match w.cell? ⟨b, 0, none⟩ with | some (.string r) => r.size | _ => 0
theorem szAt_of {b : Nat} {w : World} {r : ByteArray} (h : Blk w b 9 #[.string r]) : szAt b w = r.size := by
 have c : w.cell? ⟨b, 0, none⟩ = some (.string r) := h.cell 0
 unfold szAt
 rw [c]
def enS (x : ByteArray) : Array Value := #[.string x]
def YL (J Jx : List ByteArray → World → Prop) (b : Nat) (pre : List ByteArray) (x : ByteArray) (W1 : World) (e : Ending) (W' : World) : Prop := ∃ bb, e = .returned (.bool bb) ∧ ((bb = true ∧ J (pre ++ [x]) W' ∧ Kc b W1 W') ∨ (bb = false ∧ Jx (pre ++ [x]) W'))
def HIndex : Prop := ∀ (s : ByteArray) (c : Int) (w : World), Calls Tryz.prog 77 #[.string s, .int .u8 c] w fun e w' => e = .returned (.int .i64 (indexByte s.data.toList c.toNat.toUInt8)) ∧ w' = w
theorem lines_seq (HIB : HIndex) (b : Nat) (s : ByteArray) (hs : s.size ≤ 1000000) (w : World) (hB : Blk w b 9 #[.string s]) :
  SeqR Tryz.prog 96 #[.pointer (some ⟨b, 0, none⟩)] enS (Kc b) (Rc b) (fun ys => ys = linesB s) (fun pre => pre <+: linesB s) w := fun l J Jx W hW hJ hJx hY h0 => by
 have hBW : Blk W b 9 #[.string s] := (hW.block b hB.lt).trans hB; have hY2 : ∀ pre x W1, (pre ++ [x]) <+: linesB s → J pre W1 → YieldAt Fence.wide 4 Tryz.prog l (enS x) W1 (YL J Jx b pre x W1) := fun pre x W1 hsp hj => by
  obtain ⟨fn, tmps, assign, body, hy, hR⟩ := hY pre x W1 hsp hj
  exact ⟨fn, tmps, assign, body, hy, hR.mono (fun e W' h => h.elim (fun ⟨he, h1, h2⟩ => ⟨true, he, .inl ⟨rfl, h1, h2⟩⟩) (fun ⟨he, h1⟩ => ⟨false, he, .inr ⟨rfl, h1⟩⟩))⟩
 have HY := Zh hY2; have HB := Zh hBW; have HJ := Zh hJ; have HI := Zh HIB; have hd : Fence.wide.depth = none := rfl; have hall : ∀ f, Fence.wide.fn f := fun _ => trivial
 have hro : Fence.wide.round = none := rfl; have hlW : b < W.heap.size := hBW.lt; clear hY hY2 hBW hB hJ hJx HIB; refine callsIn_of_wp Tryz.func96 rfl (hall _) ?_ hro; simp only [Tryz.ntmps96, List.size_toArray, List.length_cons, List.length_nil, Nat.reduceAdd, Nat.reduceSub, Array.replicate_succ, Array.replicate_zero, List.push_toArray, List.append_toArray, List.nil_append, List.cons_append]
 gi_wp2
 gi_loopw [3, 4] (fun _ _ wr => ∃ (pre : List ByteArray) (r : ByteArray), linesB s = pre ++ linesB r ∧ r.size ≤ 1000000 ∧ Blk wr b 9 #[.string r] ∧ J pre wr) (fun _ _ wr => szAt b wr)
 case atStart => exact ⟨[], s, rfl, hs, HB.out, h0⟩
 case round =>
  obtain ⟨pre, r, hpre, hr, hb, hj⟩ := hrel; have HP := Zh hpre; have HBr := Zh hb; have HJr := Zh hj; have HSZ := Zh (szAt_of hb); have c0 : wr.cell? ⟨b, 0, none⟩ = some (.string r) := hb.cell 0; have f0 : wr.frozen? ⟨b, 0, none⟩ = false := hb.frozen 0; clear hpre hb hj
  by_cases hz : r.size = 0
  ·
   have hzI : ¬ (r.size : Int) > 0 := by omega
   have HE := Zh (linesB_nil hz); clear hz
   gi_wp2
   go_end0
   exact ⟨⟨_, rfl⟩, .inl (by have := HP.out; rw [HE.out, List.append_nil] at this; rw [this]; exact HJr.out)⟩
  ·
   have hzI : (r.size : Int) > 0 := by omega
   have HLC := Zh (linesB_cons hz); have HLT := Zh (lineOf_lt hz); obtain ⟨ix, hix⟩ : ∃ ix, indexByte r.data.toList 10 = ix := ⟨_, rfl⟩; have HIX := Zh hix; have HC := Zh (HI.out r 10 wr); have hten : ((10 : Int).toNat.toUInt8) = 10 := by decide
   rw [hten, hix] at HC; clear hz hix hten
   by_cases hneg : ix < 0
   ·
    have hixI : ¬ ix ≥ 0 := by omega
    have HLO := Zh (show lineOf r = (r, ⟨#[]⟩) from by unfold lineOf; rw [HIX.out, if_neg (by omega)]); rw [HLO.out] at HLC HLT; clear hneg
    gi_wp2_with (gi_at_call 77; refine (callsIn_wide.2 HC.out).mono ?_; rintro _ wz ⟨rfl, hw0⟩; replace hw0 := hw0.symm; subst hw0)
    obtain ⟨fn, tmps, assign, body, hy, hRR⟩ := HY.out pre r (wr.setCell ⟨b, 0, none⟩ (.string ⟨#[]⟩)) ⟨linesB ⟨#[]⟩, by rw [HP.out, HLC.out, List.append_assoc]; rfl⟩ (HJ.out _ _ _ HJr.out (Rc.set b wr _)); simp only [enS] at hy; have HRR := Zh hRR; clear hRR
    go_simp
    refine HRR.out.mono ?_; rintro e W3 ⟨bb, rfl, hh⟩; have HH := Zh hh; clear hh hy
    rcases HH.out with ⟨rfl, hj3, hk3⟩ | ⟨rfl, hx3⟩
    ·
     have HJ3 := Zh hj3; have HB3 := Zh (show Blk W3 b 9 #[.string ⟨#[]⟩] from Eq.trans hk3 (HBr.out.set_ 0 _)); have HS3 := Zh (szAt_of HB3.out); clear hj3 hk3
     gi_wp2
     go_roundw
     case rel => exact ⟨pre ++ [r], ⟨#[]⟩, by rw [HP.out, HLC.out, List.append_assoc]; rfl, (by show (0 : Nat) ≤ _; omega), HB3.out, HJ3.out⟩
     case measure => rw [HS3.out, HSZ.out]; exact HLT.out
    ·
     have HX3 := Zh hx3; clear hx3
     gi_wp2
     refine bodyPost_ret (results_none rfl _ _ _) rfl ?_
     exact ⟨⟨_, rfl⟩, .inr ⟨_, ⟨_, by rw [HP.out, HLC.out, List.append_assoc]; rfl⟩, HX3.out⟩⟩
   ·
    obtain ⟨q, rfl⟩ : ∃ q : Nat, ix = (q : Int) := ⟨ix.toNat, by omega⟩; have hixI : ((q : Nat) : Int) ≥ 0 := by omega
    obtain ⟨L, R, hLO⟩ : ∃ L R, r.extract 0 (q + 1) = L ∧ r.extract (q + 1) r.size = R := ⟨_, _, rfl, rfl⟩; have hqs : q < r.size := by
     have := (indexByte_some HIX.out).1; have h2 := (List.getElem?_eq_some_iff.1 this).1; rw [Array.length_toList] at h2
     exact h2
    have HLO := Zh (show lineOf r = (L, R) from by unfold lineOf; rw [HIX.out, if_pos hixI, ← hLO.1, ← hLO.2]; rfl); rw [HLO.out] at HLC HLT; have HEX := Zh hLO; have c0d : wr.drew.cell? ⟨b, 0, none⟩ = some (.string r) := c0; have f0d : wr.drew.frozen? ⟨b, 0, none⟩ = false := f0; have i1 : IntKind.i64.wrap ((q : Int) + 1) = (q : Int) + 1 := IntWalk.i64_in _ (by omega); have i2 : (q : Int) + 1 ≤ (r.size : Int) := by omega
    have i3 : (0 : Int) ≤ (q : Int) + 1 := by omega
    clear hneg hLO
    gi_wp2_with (gi_at_call 77; refine (callsIn_wide.2 HC.out).mono ?_; rintro _ wz ⟨rfl, hw0⟩; replace hw0 := hw0.symm; subst hw0)
    refine wpIn_wide.2 ?_; refine wp_region_E [([9], fun w' => w'.cell? ⟨b, 0, none⟩ = some (.string r))] (by kernel_rfl) ⟨fun _ => c0d, trivial⟩ (fun hHeld => ?_); refine wpAnyE_load (i := 0) _ _ (v := ?_) rfl (by kernel_rfl) List.mem_cons_self (by kernel_rfl) (by kernel_rfl) (by kernel_rfl) (by kernel_rfl) (fun _ _ _ h => h) (Or.inl ⟨by rfl, ?_⟩) hHeld (fun hHeld => ?_)
    rotate_left
    ·
     (intro w hSw; (try dsimp only at hSw); (try simp only [List.getElem_toArray, List.getElem_cons_succ, List.getElem_cons_zero]); go_simp; try with_reducible rfl)
    try simp only [List.getElem_toArray, List.getElem_cons_succ, List.getElem_cons_zero, Act.put, List.setIfInBounds_toArray, List.set_cons_zero, List.set_cons_succ]
    refine wpAnyE_take (i := 1) (v := ?_) rfl (by kernel_rfl) (by kernel_rfl) (by kernel_rfl) (by kernel_rfl) (fun _ _ _ h => h) (Or.inl ⟨by rfl, ?_⟩) hHeld (fun hHeld => ?_)
    rotate_left
    ·
     (intro w hSw; (try dsimp only at hSw); (try simp only [List.getElem_toArray, List.getElem_cons_succ, List.getElem_cons_zero]); go_simp; try with_reducible rfl)
    try simp only [List.getElem_toArray, List.getElem_cons_succ, List.getElem_cons_zero, Act.put, List.setIfInBounds_toArray, List.set_cons_zero, List.set_cons_succ]
    refine wpAnyE_take (i := 2) (v := ?_) rfl (by kernel_rfl) (by kernel_rfl) (by kernel_rfl) (by kernel_rfl) (fun _ _ _ h => h) (Or.inl ⟨by rfl, ?_⟩) hHeld (fun hHeld => ?_)
    rotate_left
    ·
     (intro w hSw; (try dsimp only at hSw); (try simp only [List.getElem_toArray, List.getElem_cons_succ, List.getElem_cons_zero]); go_simp; try with_reducible rfl)
    try simp only [List.getElem_toArray, List.getElem_cons_succ, List.getElem_cons_zero, Act.put, List.setIfInBounds_toArray, List.set_cons_zero, List.set_cons_succ]
    refine wpAnyE_take (i := 3) (v := ?_) rfl (by kernel_rfl) (by kernel_rfl) (by kernel_rfl) (by kernel_rfl) (fun _ _ _ h => h) (Or.inl ⟨by rfl, ?_⟩) hHeld (fun hHeld => ?_)
    rotate_left
    ·
     (intro w hSw; (try dsimp only at hSw); (try simp only [List.getElem_toArray, List.getElem_cons_succ, List.getElem_cons_zero]); go_simp; try with_reducible rfl)
    try simp only [List.getElem_toArray, List.getElem_cons_succ, List.getElem_cons_zero, Act.put, List.setIfInBounds_toArray, List.set_cons_zero, List.set_cons_succ]
    refine wpAnyE_load (i := 4) _ _ (v := ?_) rfl (by kernel_rfl) List.mem_cons_self (by kernel_rfl) (by kernel_rfl) (by kernel_rfl) (by kernel_rfl) (fun _ _ _ h => h) (Or.inl ⟨by rfl, ?_⟩) hHeld (fun hHeld => ?_)
    rotate_left
    ·
     (intro w hSw; (try dsimp only at hSw); (try simp only [List.getElem_toArray, List.getElem_cons_succ, List.getElem_cons_zero]); go_simp; try with_reducible rfl)
    try simp only [List.getElem_toArray, List.getElem_cons_succ, List.getElem_cons_zero, Act.put, List.setIfInBounds_toArray, List.set_cons_zero, List.set_cons_succ]
    refine wpAnyE_take (i := 5) (v := ?_) rfl (by kernel_rfl) (by kernel_rfl) (by kernel_rfl) (by kernel_rfl) (fun _ _ _ h => h) (Or.inl ⟨by rfl, ?_⟩) hHeld (fun hHeld => ?_)
    rotate_left
    ·
     (intro w hSw; (try dsimp only at hSw); (try simp only [List.getElem_toArray, List.getElem_cons_succ, List.getElem_cons_zero]); go_simp; try with_reducible rfl)
    try simp only [List.getElem_toArray, List.getElem_cons_succ, List.getElem_cons_zero, Act.put, List.setIfInBounds_toArray, List.set_cons_zero, List.set_cons_succ]
    refine wpAnyE_take (i := 6) (v := ?_) rfl (by kernel_rfl) (by kernel_rfl) (by kernel_rfl) (by kernel_rfl) (fun _ _ _ h => h) (Or.inl ⟨by rfl, ?_⟩) hHeld (fun hHeld => ?_)
    rotate_left
    ·
     (intro w hSw; (try dsimp only at hSw); (try simp only [List.getElem_toArray, List.getElem_cons_succ, List.getElem_cons_zero]); go_simp; try with_reducible rfl)
    try simp only [List.getElem_toArray, List.getElem_cons_succ, List.getElem_cons_zero, Act.put, List.setIfInBounds_toArray, List.set_cons_zero, List.set_cons_succ]
    refine wpAnyE_take (i := 7) (v := ?_) rfl (by kernel_rfl) (by kernel_rfl) (by kernel_rfl) (by kernel_rfl) (fun _ _ _ h => h) (Or.inl ⟨by rfl, ?_⟩) hHeld (fun hHeld => ?_)
    rotate_left
    ·
     (intro w hSw; (try dsimp only at hSw); (try simp only [List.getElem_toArray, List.getElem_cons_succ, List.getElem_cons_zero]); go_simp; try with_reducible rfl)
    try simp only [List.getElem_toArray, List.getElem_cons_succ, List.getElem_cons_zero, Act.put, List.setIfInBounds_toArray, List.set_cons_zero, List.set_cons_succ]
    refine wpAnyE_ready (rs := [8]) (by kernel_rfl) (by simp) (AllE.cons rfl (fun K hK => ?_) AllE.nil); clear hHeld
    go_simp
    refine hK.out _ _ ⟨fun _ => c0d, trivial⟩ (fun hHeld => ?_); clear hK K
    try simp only [List.getElem_toArray, List.getElem_cons_succ, List.getElem_cons_zero, Act.put, List.setIfInBounds_toArray, List.set_cons_zero, List.set_cons_succ]
    refine wpAnyE_ready (rs := [9]) (by kernel_rfl) (by simp) (AllE.cons rfl (fun K hK => ?_) AllE.nil); clear hHeld
    go_simp
    refine hK.out _ _ ⟨(fun e => absurd e (Bool.eq_false_iff.1 (by kernel_rfl))), trivial⟩ (fun hHeld => ?_); clear hK K
    try simp only [List.getElem_toArray, List.getElem_cons_succ, List.getElem_cons_zero, Act.put, List.setIfInBounds_toArray, List.set_cons_zero, List.set_cons_succ]
    refine wpAnyE_done (by kernel_rfl) (only_normal ?_) _; rw [HEX.out.1, HEX.out.2]; clear hHeld i1 i2 i3 c0d f0d c0 f0
    gi_wp2
    obtain ⟨fn, tmps, assign, body, hy, hRR⟩ := HY.out pre L (wr.setCell ⟨b, 0, none⟩ (.string R)).drew ⟨linesB R, by rw [HP.out, HLC.out, List.append_assoc]; rfl⟩ (HJ.out _ _ _ HJr.out (Rc.set b wr _).drew); simp only [enS] at hy; have HRR := Zh hRR; clear hRR
    go_simp
    refine HRR.out.mono ?_; rintro e W3 ⟨bb, rfl, hh⟩; have HH := Zh hh; clear hh hy
    rcases HH.out with ⟨rfl, hj3, hk3⟩ | ⟨rfl, hx3⟩
    ·
     have HJ3 := Zh hj3; have HB3 := Zh (show Blk W3 b 9 #[.string R] from Eq.trans hk3 (HBr.out.set_ 0 _)); have HS3 := Zh (szAt_of HB3.out); clear hj3 hk3
     gi_wp2
     go_roundw
     case rel => exact ⟨pre ++ [L], R, by rw [HP.out, HLC.out, List.append_assoc]; rfl, (by have h1 : R.size < r.size := HLT.out; omega), HB3.out, HJ3.out⟩
     case measure => rw [HS3.out, HSZ.out]; exact HLT.out
    ·
     have HX3 := Zh hx3; clear hx3
     gi_wp2
     refine bodyPost_ret (results_none rfl _ _ _) rfl ?_
     exact ⟨⟨_, rfl⟩, .inr ⟨_, ⟨_, by rw [HP.out, HLC.out, List.append_assoc]; rfl⟩, HX3.out⟩⟩
end Go.Proofs.YtphijnkiiokieaaGreatDoor
namespace Go.Proofs.YtphijnkiiokieaaGreatDoor
open Go.RowKit
open Go.Lib hiding intOf
open Go.Sort Go.Proofs
theorem canO_spec (own : List F3) : ((canO own).2 = 0 ∧ (canO own).1 = own ∧ own.length ≤ 12 ∧ (txt own).size ≤ 900 ∧ cnt 1 own = 1 ∧ cnt 2 own ≤ 1 ∧ cnt 5 own ≤ 1) ∨ ((canO own).2 ≠ 0 ∧ (canO own).1 = []) := by
 unfold canO
 split
 ·
  exact .inr ⟨by decide, rfl⟩
 ·
  split
  ·
   exact .inr ⟨by decide, rfl⟩
  ·
   split
   ·
    exact .inr ⟨by decide, rfl⟩
   ·
    exact .inl ⟨rfl, rfl, by omega, by omega, by omega, by omega, by omega⟩
theorem canL_spec (L : List F3) : ((canL L).2 = 0 ∧ errL L = 0 ∧ (canL L).1 = rise (cnA L) ∧ (canL L).1.length ≤ 12 ∧ (txt (canL L).1).size ≤ 900) ∨ ((canL L).2 ≠ 0 ∧ (canL L).1 = []) := by
 by_cases h : errL L = 0
 ·
  have e := canL_ok h
  rcases canO_spec (rise (cnA L)) with ⟨h1, h2, h3, h4, _⟩ | ⟨h1, h2⟩
  ·
   exact .inl ⟨by rw [e]; exact h1, h, by rw [e]; exact h2, by rw [e, h2]; exact h3, by rw [e, h2]; exact h4⟩
  ·
   exact .inr ⟨by rw [e]; exact h1, by rw [e]; exact h2⟩
 ·
  have e := canL_err rfl h
  exact .inr ⟨by rw [e]; exact h, by rw [e]⟩
def txtL (L : List F3) : ByteArray × Int := if (canL L).2 = 0 then (txt (canL L).1, 0) else (⟨#[]⟩, (canL L).2)
theorem text_any {w : World} {A : Option Addr} {cap b off : Nat} {L : List F3} (h : Fv w A cap b off L) (hn : L.length ≤ 1000) (hv : ∀ f ∈ L, f.2.2.size ≤ 1000000) (hE : Env w) :
  Calls Tryz.prog 88 #[.slice A L.length cap] w fun e w' => e = .returned (.tuple #[.string (txtL L).1, .int .i64 (txtL L).2]) ∧ Below w.heap.size w w' := by
 have HC := Zh (canon_any h hn hv hE); have HE := Zh hE; have HSP := Zh (canL_spec L); have HT : Hid (txtL L = if (canL L).2 = 0 then (txt (canL L).1, 0) else (⟨#[]⟩, (canL L).2)) := Zh rfl; have HV := Zh (@cnA_size L); obtain ⟨n, hnn⟩ : ∃ n, L.length = n := ⟨_, rfl⟩; obtain ⟨own, er, hres⟩ : ∃ own er, canL L = (own, er) := ⟨_, _, rfl⟩; obtain ⟨tv, te, htv⟩ : ∃ tv te, txtL L = (tv, te) := ⟨_, _, rfl⟩; rw [hres] at HC HSP HT; rw [htv] at HT ⊢; rw [hnn] at HC ⊢; simp only at HC HSP HT ⊢; clear h hn hv hE hres htv hnn
 go_enter Tryz.func88, Tryz.ntmps88
 go_wp2_with fail
 refine HC.out.mono ?_; rintro e w1 ⟨hb, A1, c1, g1, rfl, hf⟩; have HB1 := Zh hb; have HF1 := Zh hf; have HE1 := Zh (HE.out.on hb); clear hb hf HC
 by_cases he : er = 0
 ·
  subst he; obtain ⟨rfl, rfl⟩ := Prod.mk.inj (HT.out.trans (if_pos rfl)); have hsp : own = rise (cnA L) ∧ own.length ≤ 12 := by
   rcases HSP.out with ⟨_, _, h1, h2, _⟩ | ⟨h, _⟩
   ·
    exact ⟨h1, h2⟩
   ·
    exact absurd rfl h
  have HL := Zh (lines_any HF1.out (by have := hsp.2; omega) (fun f hf => by rw [hsp.1] at hf; have := HV.out f hf; omega) HE1.out.t HE1.out.m HE1.out.d); obtain ⟨m, hm⟩ : ∃ m, own.length = m := ⟨_, rfl⟩; have HTX := Zh (show (⟨(lnL own m).toArray⟩ : ByteArray) = txt own from by unfold txt; rw [hm]); rw [hm] at HL ⊢; rw [HTX.out] at HL; obtain ⟨tx, htx⟩ : ∃ tx, txt own = tx := ⟨_, rfl⟩; have HTX2 := Zh htx; rw [htx] at HL; clear hsp hm htx
  go_wp2_with fail
  refine HL.out.mono ?_; rintro _ w2 ⟨rfl, hb⟩; have HB2 := Zh (HB1.out.trans (hb.mono HB1.out.size)); clear hb
  go_wp2
  go_ret2
  exact ⟨by rw [HTX2.out]; rfl, HB2.out⟩
 ·
  obtain ⟨rfl, rfl⟩ := Prod.mk.inj (HT.out.trans (if_neg he)); have hne : (te != 0) = true := by simpa using he
  clear he
  go_wp2_with fail
  go_ret2
  exact ⟨rfl, HB1.out⟩
def trimN (l : ByteArray) : ByteArray := ⟨(Lib.trimSuffix l.data.toList [10]).toArray⟩
def perr (l : ByteArray) : Int := (parseF (trimN l)).e
def fof (l : ByteArray) : F3 := ((parseF (trimN l)).k, (parseF (trimN l)).l, (parseF (trimN l)).v)
theorem trimN_size (l : ByteArray) : (trimN l).size ≤ l.size := by
 unfold trimN
 show (Lib.trimSuffix l.data.toList [10]).toArray.size ≤ _
 rw [List.size_toArray]
 unfold Lib.trimSuffix
 have e : l.data.toList.length = l.size := by rw [Array.length_toList]; rfl
 split
 ·
  rw [List.length_take]; omega
 ·
  omega
theorem trimN_any (l : ByteArray) (hs : l.size ≤ 1000000) (w : World) : Calls Tryz.prog 87 #[.string l, .string ⟨#[10]⟩] w fun e w' => e = .returned (.string (trimN l)) ∧ w' = w := Tryz.strings_TrimSuffix l ⟨#[10]⟩ w (by omega)
theorem lines_fn (s : ByteArray) (w : World) : Calls Tryz.prog 85 #[.string s] w fun e w' => e = .returned (.func (.func 96) #[] #[.pointer (some ⟨w.heap.size, 0, none⟩)]) ∧ w' = w.alloc (.cells #[.string s] 9) := by
 go_enter Tryz.func85, Tryz.ntmps85
 go_wp2
 go_ret
 exact ⟨rfl, rfl⟩
theorem hindex : HIndex := fun s c w => Tryz.strings_IndexByte s c w
theorem results_cc (tmps : Array Value) (w : World) (g1 g2 : Nat) (v1 v2 : Value) (h1 : tmps.getD 2 undef = .pointer (some ⟨g1, 0, none⟩)) (h2 : tmps.getD 3 undef = .pointer (some ⟨g2, 0, none⟩)) (b1 : Blk w g1 85 #[v1]) (b2 : Blk w g2 30 #[v2]) :
  (results Tryz.f78 tmps).run Tryz.prog w = .ok (.tuple #[v1, v2]) w := by
 have c1 : w.cell? ⟨g1, 0, none⟩ = some v1 := b1.cell 0; have c2 : w.cell? ⟨g2, 0, none⟩ = some v2 := b2.cell 0; have h1' : tmps[2]?.getD undef = .pointer (some ⟨g1, 0, none⟩) := by simpa using h1
 have h2' : tmps[3]?.getD undef = .pointer (some ⟨g2, 0, none⟩) := by simpa using h2
 have hr : Tryz.f78.results = #[.cell 2 85, .cell 3 30] := rfl
 simp [results, hr, h1', h2', asAddr, go_sem, c1, c2]
def flds (ls : List ByteArray) : List F3 := ls.map fof
def parL (s : ByteArray) : List F3 × Int :=
 if 900 < s.size then ([], 1) else if (linesB s).any (fun x => perr x != 0) = true then ([], 1) else if (txtL (flds (linesB s))).2 ≠ 0 ∨ (txtL (flds (linesB s))).1 ≠ s then ([], 1) else (flds (linesB s), 0)
theorem parse_v (l : ByteArray) : fldV (parseF (trimN l)) = .tuple #[.agg #[.int .i64 (fof l).1, .int .i64 (fof l).2.1, .string (fof l).2.2], .int .i64 (perr l)] := rfl
end Go.Proofs.YtphijnkiiokieaaGreatDoor
