/- Texts of one proof, joined. -/
import Derived.Test.YtphijnkiiokieaaGreatDoorZan
set_option linter.unusedVariables false
set_option linter.unusedSimpArgs false
set_option maxRecDepth 100000
set_option maxHeartbeats 80000000
namespace Go.Proofs.YtphijnkiiokieaaGreatDoor
open Go.RowKit
open Go.Lib hiding intOf
open Go.Sort Go.Proofs
open Go.Shelf
attribute [local go_sem] Oper.semAt_some
set_option linter.unusedVariables false
set_option linter.unusedSimpArgs false
set_option maxRecDepth 100000
def mkD (D : Nat) : Deferred := { target := .collected D, args := #[] }
def Marks (w : World) (B : Nat) (Ds : List Nat) : Prop := Ds.Nodup ∧ ∀ D ∈ Ds, B ≤ D ∧ w.heap[D]? = some (.deferred (some []))
theorem leave_marks {P : Program} {fn : Func} {tmps : Array Value} {R : Ending → World → Prop} {B : Nat} {Good : World → Prop} (hput : ∀ W D, Good W → W.heap[D]? = some (.deferred (some [])) → B ≤ D → Good (W.putObj D (.deferred none))) (hend : ∀ W, Good W → LeavesInM Fence.wide 6 P fn tmps R [] .returning W) :
    ∀ (Ds : List Nat) (W : World), Marks W B Ds → Good W → LeavesInM Fence.wide 6 P fn tmps R (Ds.map mkD) .returning W
  | [], W, _, hG => hend W hG
  | D :: Ds, W, ⟨hn, hm⟩, hG => by
    rw [List.nodup_cons] at hn; obtain ⟨h1, h2⟩ := hm D List.mem_cons_self; refine ⟨by simp, .inl ⟨_, _, rfl, run_takeDeferred h2, ?_⟩⟩; refine leave_marks hput hend Ds _ ⟨hn.2, fun D' hD' => ?_⟩ (hput W D hG h2 h1); obtain ⟨h3, h4⟩ := hm D' (List.mem_cons_of_mem _ hD')
    exact ⟨h3, (World.putObj_heap_other (fun e => hn.1 (by subst e; exact hD'))).trans h4⟩
theorem keeps_row {W W' : World} {base k n : Nat} {e : TypeId} {u : Value} {zs : List Value} (h : W.ownsRow base e k u n zs) (hg : W.grownBy W' u.ownBlock) : KeepsOthers W W' := KeepsOthers.of_grownBy hg (fun r o e ho => by
  rcases h.2 with ⟨rfl, _⟩ | ⟨b, cp, cur, rfl, _, hgb, _⟩
  · cases e
  · cases e
    rw [hgb] at ho
    cases ho
    rfl)
structure Pi (w : World) (B : Nat) (pre : List ByteArray) (W : World) (V : Value) : Prop where
  lst : Blk W (B + 2) 85 #[V]
  row : Fr3 W (B + 4) V pre.length (flds pre)
  r1 : Blk W B 85 #[.slice none 0 0]
  r2 : Blk W (B + 1) 30 #[.int .i64 0]
  bel : Below B w W
  ok : pre.any (fun x => perr x != 0) = false
  siz : B + 4 ≤ W.heap.size
structure Px (w : World) (B : Nat) (pre : List ByteArray) (W : World) : Prop where
  r1 : Blk W B 85 #[.slice none 0 0]
  r2 : Blk W (B + 1) 30 #[.int .i64 1]
  bel : Below B w W
  bad : pre.any (fun x => perr x != 0) = true
theorem fr3_own {W W' : World} {base n : Nat} {V : Value} {L : List F3} {row : Option Nat} (h : Fr3 W base V n L) (hg : W.grownBy W' row) (hr : ∀ r, row = some r → ∃ o : Obj, W.heap[r]? = some o ∧ o.isCells = false) : Fr3 W' base V n L := by
  obtain ⟨h0, h3 | ⟨b, cap, cur, rfl, e2, e3, e4⟩⟩ := h
  · exact ⟨h0, .inl h3⟩
  · exact ⟨h0, .inr ⟨b, cap, cur, rfl, e2, blk_own (cs := cur) (t := 92) e3 hg hr, e4⟩⟩
theorem fr3_keep {W W' : World} {base n : Nat} {V : Value} {L : List F3} (h : Fr3 W base V n L) (hk : ∀ j, base ≤ j → j < W.heap.size → W'.heap[j]? = W.heap[j]?) : Fr3 W' base V n L := by
  obtain ⟨h0, h3 | ⟨b, cap, cur, rfl, e2, e3, e4⟩⟩ := h
  · exact ⟨h0, .inl h3⟩
  · exact ⟨h0, .inr ⟨b, cap, cur, rfl, e2, (hk b e2 (Array.getElem?_eq_some_iff.1 e3).1).trans e3, e4⟩⟩
theorem Pi.own {w : World} {B : Nat} {pre : List ByteArray} {W W' : World} {V : Value} {row : Option Nat} (h : Pi w B pre W V) (hg : W.grownBy W' row) (hr : ∀ r, row = some r → B + 4 ≤ r ∧ ∃ o : Obj, W.heap[r]? = some o ∧ o.isCells = false) : Pi w B pre W' V :=
  ⟨blk_own h.lst hg (fun r e => (hr r e).2), fr3_own h.row hg (fun r e => (hr r e).2), blk_own h.r1 hg (fun r e => (hr r e).2), blk_own h.r2 hg (fun r e => (hr r e).2), h.bel.grown hg (Nat.le_of_lt h.r1.lt) (fun k e => by have := (hr k e).1; omega), h.ok, Nat.le_trans h.siz hg.size⟩
theorem Px.own {w : World} {B : Nat} {pre : List ByteArray} {W W' : World} {row : Option Nat} (h : Px w B pre W) (hg : W.grownBy W' row) (hr : ∀ r, row = some r → B + 4 ≤ r ∧ ∃ o : Obj, W.heap[r]? = some o ∧ o.isCells = false) : Px w B pre W' :=
  ⟨blk_own h.r1 hg (fun r e => (hr r e).2), blk_own h.r2 hg (fun r e => (hr r e).2), h.bel.grown hg (Nat.le_of_lt h.r1.lt) (fun k e => by have := (hr k e).1; omega), h.bad⟩
theorem rc_blk {b g : Nat} {t : TypeId} {cs : Array Value} {A C : World} (h : Blk A g t cs) (k : Rc b A C) (hne : g ≠ b) : Blk C g t cs := (k.block g h.lt hne).trans h
theorem Pi.rc {w : World} {B : Nat} {pre : List ByteArray} {A C : World} {V : Value} (h : Pi w B pre A V) (k : Rc (B + 3) A C) : Pi w B pre C V :=
  ⟨rc_blk h.lst k (by omega), fr3_keep h.row (fun j h1 h2 => k.block j h2 (by omega)), rc_blk h.r1 k (by omega), rc_blk h.r2 k (by omega),
    ⟨k.os.trans h.bel.os, k.tape.trans h.bel.tape, k.output.trans h.bel.output, Nat.le_trans h.bel.size k.size, fun j hj => (k.block j (by have := h.r1.lt; omega) (by omega)).trans (h.bel.block j hj)⟩, h.ok, Nat.le_trans h.siz k.size⟩
theorem Px.rc {w : World} {B : Nat} {pre : List ByteArray} {A C : World} (h : Px w B pre A) (k : Rc (B + 3) A C) : Px w B pre C :=
  ⟨rc_blk h.r1 k (by omega), rc_blk h.r2 k (by omega),
    ⟨k.os.trans h.bel.os, k.tape.trans h.bel.tape, k.output.trans h.bel.output, Nat.le_trans h.bel.size k.size, fun j hj => (k.block j (by have := h.r1.lt; omega) (by omega)).trans (h.bel.block j hj)⟩, h.bad⟩
theorem keeps_of_below {W W' : World} (B : Nat) (h : Below W.heap.size W W') : KeepsFrom B W W' := ⟨h.size, fun k o _ hk _ => (h.block k (Array.getElem?_eq_some_iff.1 hk).1).trans hk⟩
theorem fof_size (l : ByteArray) : (fof l).2.2.size ≤ l.size := by
  unfold fof
  have h1 := trimN_size l
  rcases parse_cases (trimN l) with ⟨k, j, v, _, _, h, hs⟩ | h
  · rw [h]; show v.size ≤ _; omega
  · rw [h]; show (⟨#[]⟩ : ByteArray).size ≤ _; exact Nat.zero_le _
theorem lines_mem_size : ∀ (n : Nat) (s : ByteArray), ∀ x ∈ linesN n s, x.size ≤ s.size
  | 0, s, x, hx => by cases hx
  | n + 1, s, x, hx => by
    unfold linesN at hx
    split at hx
    · cases hx
    · rcases List.mem_cons.1 hx with rfl | h
      · unfold lineOf
        split
        · simp only [ByteArray.size_extract]; omega
        · exact Nat.le_refl _
      · have h1 := lines_mem_size n _ x h
        have h2 : (lineOf s).2.size ≤ s.size := by
          unfold lineOf
          split
          · simp only [ByteArray.size_extract]; omega
          · exact Nat.zero_le _
        omega
theorem lines_len : ∀ (n : Nat) (s : ByteArray), (linesN n s).length ≤ n
  | 0, s => Nat.le_refl _
  | n + 1, s => by
    unfold linesN
    split
    · exact Nat.zero_le _
    · have := lines_len n (lineOf s).2
      rw [List.length_cons]; omega
theorem fr3_fv {W : World} {B n : Nat} {V : Value} {L : List F3} (h : Fr3 W B V n L) (hl : L.length = n) : ∃ A cap g, V = .slice A n cap ∧ Fv W A cap g 0 L := by
  by_cases hn : n = 0
  · have : L = [] := List.eq_nil_of_length_eq_zero (by omega)
    subst this; obtain ⟨_, ⟨e, _⟩ | ⟨g, cap, cur, e, _⟩⟩ := h
    · exact ⟨none, 0, 0, by rw [hn]; exact e, fv_nil _ _ _ _⟩
    · exact ⟨_, cap, g, e, fv_nil _ _ _ _⟩
  · obtain ⟨g, cap, e, _, hg, hc, _, hH⟩ := holds_fr3 h hl (by omega)
    exact ⟨_, cap, g, e, holds_fv (rest := []) (by simpa using hH) hg (by omega)⟩
structure Pg (w : World) (B : Nat) (W : World) (R : Value) (n : Nat) (L : List F3) (e : Int) : Prop where
  r1 : Blk W B 85 #[R]
  r2 : Blk W (B + 1) 30 #[.int .i64 e]
  row : Fr3 W (B + 4) R n L
  bel : Below B w W
theorem Pg.own {w : World} {B : Nat} {W W' : World} {R : Value} {n : Nat} {L : List F3} {e : Int} {row : Option Nat} (h : Pg w B W R n L e) (hg : W.grownBy W' row) (hr : ∀ r, row = some r → B + 4 ≤ r ∧ ∃ o : Obj, W.heap[r]? = some o ∧ o.isCells = false) : Pg w B W' R n L e :=
  ⟨blk_own h.r1 hg (fun r e => (hr r e).2), blk_own h.r2 hg (fun r e => (hr r e).2), fr3_own h.row hg (fun r e => (hr r e).2), h.bel.grown hg (Nat.le_of_lt h.r1.lt) (fun k e => by have := (hr k e).1; omega)⟩
theorem Pg.leave {w : World} {B : Nat} {W : World} {Rv : Value} {n : Nat} {L : List F3} {er : Int} {tmps : Array Value} {D : Nat} (h : Pg w B W Rv n L er) (hD : B + 4 ≤ D) (hK : W.heap[D]? = some (.deferred (some []))) (h1 : tmps.getD 2 undef = .pointer (some ⟨B, 0, none⟩)) (h2 : tmps.getD 3 undef = .pointer (some ⟨B + 1, 0, none⟩))
    {R : Ending → World → Prop} (hR : ∀ W, Pg w B W Rv n L er → R (.returned (.tuple #[Rv, .int .i64 er])) W) : LeavesInM Fence.wide 6 Tryz.prog Tryz.f78 tmps R [mkD D] .returning W :=
  leave_marks (B := B + 4) (Good := fun W => Pg w B W Rv n L er) (fun W D hG hK hBD => hG.own (grownBy_putObj' W D _) (fun r e => by cases e; exact ⟨hBD, _, hK, rfl⟩)) (fun W hG => ⟨_, results_cc tmps W B (B + 1) _ _ h1 h2 hG.r1 hG.r2, hR W hG⟩) [D] W ⟨by simp, fun D' hD' => by obtain rfl := List.mem_singleton.1 hD'; exact ⟨hD, hK⟩⟩ h
theorem start4 (w : World) (s : ByteArray) : ∃ W0, (((w.alloc (.cells #[.slice none 0 0] 85)).alloc (.cells #[.int .i64 0] 30)).alloc (.cells #[.slice none 0 0] 85)).alloc (.cells #[.string s] 9) = W0 ∧ Pi w w.heap.size [] W0 (.slice none 0 0) ∧ Blk W0 (w.heap.size + 3) 9 #[.string s] ∧ W0.heap.size = w.heap.size + 4 := by
  refine ⟨_, rfl, ⟨?_, ⟨rfl, .inl ⟨rfl, rfl⟩⟩, (((Blk.new w 85 _).alloc _).alloc _).alloc _, ?_, ?_, rfl, by simp⟩, ?_, ?_⟩
  · have := Blk.new ((w.alloc (.cells #[.slice none 0 0] 85)).alloc (.cells #[.int .i64 0] 30)) 85 #[.slice none 0 0]
    simp only [World.size_alloc] at this
    exact this.alloc _
  · have := Blk.new (w.alloc (.cells #[.slice none 0 0] 85)) 30 #[.int .i64 0]
    simp only [World.size_alloc] at this
    exact (this.alloc _).alloc _
  · exact ((((Below.refl _ w).alloc (Nat.le_refl _) _).alloc (by simp) _).alloc (by simp; omega) _).alloc (by simp; omega) _
  · have := Blk.new (((w.alloc (.cells #[.slice none 0 0] 85)).alloc (.cells #[.int .i64 0] 30)).alloc (.cells #[.slice none 0 0] 85)) 9 #[.string s]
    simp only [World.size_alloc] at this
    exact this
  · simp
theorem mem_of_prefix {pre l : List ByteArray} {x : ByteArray} (h : (pre ++ [x]) <+: l) : x ∈ l ∧ pre.length + 1 ≤ l.length := by
  obtain ⟨t, rfl⟩ := h
  exact ⟨by simp, by simp⟩
theorem any_of_prefix {pre l : List ByteArray} {p : ByteArray → Bool} (h : pre <+: l) (ha : pre.any p = true) : l.any p = true := by
  obtain ⟨t, rfl⟩ := h
  rw [List.any_append, ha]; rfl
theorem parL_bad {s : ByteArray} (h : (linesB s).any (fun x => perr x != 0) = true) : parL s = ([], 1) := by
  unfold parL
  split
  · rfl
  · first | rfl | rw [if_pos h]
theorem flds_snoc (pre : List ByteArray) (x : ByteArray) : flds (pre ++ [x]) = flds pre ++ [fof x] := by unfold flds; simp
theorem parse_any (s : ByteArray) (hs : s.size ≤ 1000000) (w : World) (hE : Env w) :
    Calls Tryz.prog 78 #[.string s] w fun e w' => Below w.heap.size w w' ∧ ∃ A' cap' g, e = .returned (.tuple #[.slice A' (parL s).1.length cap', .int .i64 (parL s).2]) ∧ Fv w' A' cap' g 0 (parL s).1 := by
  have HE := Zh hE; obtain ⟨W0, hW0, hi0, hB3, hs0⟩ := start4 w s; obtain ⟨B, hB⟩ : ∃ B, w.heap.size = B := ⟨_, rfl⟩; rw [hB] at hi0 hB3 hs0; have HBW := Zh hB; have HI0 := Zh hi0; have HB3 := Zh hB3; have HS0 := Zh hs0; obtain ⟨pv, pe, hp⟩ : ∃ pv pe, parL s = (pv, pe) := ⟨_, _, rfl⟩; have HP := Zh hp; rw [hp, hB]; clear hE hp hi0 hB3 hs0
  show Calls Tryz.prog 78 #[.string s] w fun e w' => Below B w w' ∧ ∃ A' cap' g, e = .returned (.tuple #[.slice A' pv.length cap', .int .i64 pe]) ∧ Fv w' A' cap' g 0 pv
  refine calls_marks Tryz.func78 rfl ?_; simp only [Tryz.ntmps78, List.size_toArray, List.length_cons, List.length_nil, Nat.reduceAdd, Nat.reduceSub, Array.replicate_succ, Array.replicate_zero, List.push_toArray, List.append_toArray, List.nil_append, List.cons_append]
  by_cases h9 : 900 < s.size
  · have h9I : (s.size : Int) > 900 := by omega
    have HR := Zh (show (pv, pe) = (([], 1) : List F3 × Int) from by rw [← HP.out]; unfold parL; rw [if_pos h9]); have HY1 := Zh (show Blk ((w.alloc (.cells #[.slice none 0 0] 85)).alloc (.cells #[.int .i64 1] 30)) w.heap.size 85 #[.slice none 0 0] from (Blk.new w 85 _).alloc _); have HY2 := Zh (show Blk ((w.alloc (.cells #[.slice none 0 0] 85)).alloc (.cells #[.int .i64 1] 30)) (w.heap.size + 1) 30 #[.int .i64 1] from by
      have := Blk.new (w.alloc (.cells #[.slice none 0 0] 85)) 30 #[.int .i64 1]; simp only [World.size_alloc] at this
      exact this)
    clear h9 hW0 hB
    go_wp2
    obtain ⟨rfl, rfl⟩ := Prod.mk.inj HR.out
    exact ⟨_, results_cc _ _ _ _ _ _ rfl rfl HY1.out HY2.out, HBW.out ▸ ((Below.refl _ w).alloc (Nat.le_refl _) _).alloc (by simp) _, none, 0, 0, rfl, fv_nil _ _ _ _⟩
  · have h9I : ¬ (s.size : Int) > 900 := by omega
    have h9n : s.size ≤ 900 := by omega
    have HPL := Zh (show parL s = if (linesB s).any (fun x => perr x != 0) = true then ([], 1) else if (txtL (flds (linesB s))).2 ≠ 0 ∨ (txtL (flds (linesB s))).1 ≠ s then ([], 1) else (flds (linesB s), 0) from by unfold parL; rw [if_neg h9]); clear h9
    go_wp2_with (first
      | (go_at_call 85
         refine (lines_fn s _).mono ?_
         rintro _ wz ⟨rfl, hw0⟩)
      | fail)
    obtain rfl : W0 = wz := by rw [hw0, ← hW0]
    clear hw0 hW0; simp only [HBW.out, Nat.add_assoc, Nat.reduceAdd]; obtain ⟨i0, hi, hz0, hz1, hz2⟩ := info_parts info36
    refine (wpIn_wide (n := 6)).1 (wpIn_range_R (gf := 96) (lb := #[.pointer (some ⟨B + 3, 0, none⟩)]) rfl (enters_of Tryz.func96 (by kernel_rfl) rfl) (lines_seq hindex (B + 3) s hs W0 HB3.out) (fun _ => rfl) (fun h k => Eq.trans k h) (fun W l o o' hl h1 h2 => World.putObj_heap_other (by have := HS0.out; omega)) (fun A C k o hR hk hA ho => (hR.block k (Array.getElem?_eq_some_iff.1 hA).1 (by have := HS0.out; omega)).trans hA)
      (fun pre W => ∃ V, Pi w B pre W V) (fun c pre W => c = .ret ∧ Px w B pre W)
      (fun pre A C row ⟨V, h⟩ hg hr => ⟨V, h.own hg (fun r e => by have := hr r e; rw [HS0.out] at this; exact this)⟩)
      (fun c pre A C row ⟨h1, h⟩ hg hr => ⟨h1, h.own hg (fun r e => by have := hr r e; rw [HS0.out] at this; exact this)⟩)
      (fun pre A C ⟨V, h⟩ hR => ⟨V, h.rc hR⟩) (fun c pre A C ⟨h1, h⟩ hR => ⟨h1, h.rc hR⟩) ⟨_, HI0.out⟩ ?a1 ?assign ?body ?done ?stop)
    case assign =>
      intro l x W K hK; simp only [enS]
      gi_wp2
      exact hK
    case body =>
      rintro l pre x W hsp ⟨V, hpi⟩; obtain ⟨hxm, hpl⟩ := mem_of_prefix hsp; have hxs : x.size ≤ 900 := by have := lines_mem_size _ _ x hxm; omega
      have hpn : pre.length ≤ 900 := by have := lines_len s.size s; unfold linesB at hpl; omega
      have HPI := Zh hpi; have hEW : Env W := HE.out.on (HBW.out ▸ hpi.bel); have HT := Zh (fun w => trimN_any x (by omega) w); have HFP := Zh (fparse_any (trimN x) (by have := trimN_size x; omega) W hEW.t hEW.m hEW.d); rw [parse_v] at HFP; obtain ⟨⟨d1, d2, d3⟩, hd⟩ : ∃ f, fof x = f := ⟨_, rfl⟩; obtain ⟨de, hde⟩ : ∃ e, perr x = e := ⟨_, rfl⟩; obtain ⟨tx, htx⟩ : ∃ t, trimN x = t := ⟨_, rfl⟩; rw [hd, hde, htx] at HFP; rw [htx] at HT; have HD := Zh hd; have HDE := Zh hde; simp only at HFP; clear hsp hxm hpl hpi hEW hd hde htx
      gi_wp2_with fail
      refine ⟨trivial, (CallsIn.inRound _ (callsIn_wide.2 (HT.out _))).mono ?_⟩; rintro _ wz ⟨rfl, hw0⟩; replace hw0 := hw0.symm; subst hw0
      gi_wp2_with fail
      refine ⟨trivial, (CallsIn.inRound _ (callsIn_wide.2 HFP.out)).mono ?_⟩; rintro _ W1 ⟨rfl, hb⟩; obtain ⟨m9, hm9⟩ : ∃ n, W1.heap.size = n := ⟨_, rfl⟩; have hWs : B + 3 ≤ W.heap.size := by have := HPI.out.lst.lt; omega
      obtain ⟨W4, hW4⟩ : ∃ W4, W1.alloc (.cells #[.int .i64 0, .int .i64 0, .string { data := #[] }] 92) = W4 := ⟨_, rfl⟩; have HC4 := Zh (show Below W1.heap.size W1 W4 from hW4 ▸ (Below.refl _ W1).alloc (Nat.le_refl _) _); have HY4 := Zh (show Blk W4 m9 92 #[.int .i64 0, .int .i64 0, .string .empty] from hm9 ▸ hW4 ▸ Blk.new W1 92 _); have y0 := HY4.out.cell 0; have y1 := HY4.out.cell 1; have y2 := HY4.out.cell 2; have g0 := HY4.out.frozen 0; have g1 := HY4.out.frozen 1; have g2 := HY4.out.frozen 2; obtain ⟨w5, hw5⟩ : ∃ w5, ((W4.setCell ⟨m9, 0, none⟩ (.int .i64 d1)).setCell ⟨m9, 1, none⟩ (.int .i64 d2)).setCell ⟨m9, 2, none⟩ (.string d3) = w5 := ⟨_, rfl⟩; have HB5 := Zh (show Blk w5 m9 92 #[.int .i64 d1, .int .i64 d2, .string d3] from hw5 ▸ (((HY4.out.set_ 0 _).set_ 1 _).set_ 2 _)); have HC5 := Zh (show Below m9 W1 w5 from hw5 ▸ (((((HC4.out.mono (Nat.le_of_eq hm9.symm)).setCell (p := ⟨m9, 0, none⟩) (Nat.le_refl _) _).setCell (p := ⟨m9, 1, none⟩) (Nat.le_refl _) _).setCell (p := ⟨m9, 2, none⟩) (Nat.le_refl _) _))); have HS5 := Zh (show W.heap.size ≤ m9 from by have := hb.size; omega); have HF5 := Zh (show Below W.heap.size W w5 from hb.trans (HC5.out.mono HS5.out)); have HL5 := Zh (HPI.out.lst.below HF5.out HPI.out.lst.lt); have HA5 := Zh (HPI.out.r1.below HF5.out HPI.out.r1.lt); have HZ5 := Zh (HPI.out.r2.below HF5.out HPI.out.r2.lt); have HR5 := Zh (fr3_keep HPI.out.row (fun j _ hj => HF5.out.block j hj)); have HBL5 := Zh (HPI.out.bel.trans (HF5.out.mono (by omega))); have HSA := Zh (show B + 4 ≤ w5.heap.size from by have h1 := HF5.out.size; have h2 := HB5.out.lt; have h3 := HS5.out; omega); clear hb
      by_cases hde : de = 0
      · have hdb : (de != 0) = false := by simpa using hde
        obtain ⟨W6, hW6⟩ : ∃ W6, w5.alloc (.cells #[.int .i64 d1, .int .i64 d2, .string d3] 92) = W6 := ⟨_, rfl⟩; have HB6 := Zh (show Blk W6 w5.heap.size 92 #[.int .i64 d1, .int .i64 d2, .string d3] from hW6 ▸ Blk.new w5 92 _); have HR6 := Zh (show Fr3 W6 (B + 4) V pre.length (flds pre) from hW6 ▸ World.ownsRow.alloc HR5.out _); have HF6 := Zh (show Below w5.heap.size w5 W6 from hW6 ▸ (Below.refl _ w5).alloc (Nat.le_refl _) _); have HL6 := Zh (HL5.out.below HF6.out HL5.out.lt); have c4 : w5.cell? ⟨B + 2, 0, none⟩ = some V := HL5.out.cell 0; have z0 : w5.cell? ⟨m9, 0, none⟩ = some (.int .i64 d1) := HB5.out.cell 0; have z1 : w5.cell? ⟨m9, 1, none⟩ = some (.int .i64 d2) := HB5.out.cell 1; have z2 : w5.cell? ⟨m9, 2, none⟩ = some (.string d3) := HB5.out.cell 2
        gi_wp2_with (first
          | (gi_at_builtin
             (try rw [hw5])
             (try rw [hW6])
             refine wpListIn_append_own _ rfl _ _ 85 rfl (B + 4) 92 i0 (.agg #[.int .i64 0, .int .i64 0, .string ⟨#[]⟩]) 3 32 Tryz.underlying85 hi hz0 hz1 hz2 rfl (by decide) V pre.length (encL (flds pre)) rfl HR6.out ⟨w5.heap.size, 0, none⟩ 1 1 (encF (d1, d2, d3)) rfl rfl (World.news_of_block (cs := #[.int .i64 d1, .int .i64 d2, .string d3]) (t := 92) (fr := (0, 0)) HB6.out) (by intro y hy; unfold encF at hy; simp at hy; rcases hy with rfl | rfl | rfl <;> rfl) (by unfold maxLen; omega) (by omega) (by have := HF6.out.size; have := HS0.out; have := HSA.out; omega) ?_; intro V' w7 hown hgr _; obtain ⟨g', cap', rfl⟩ := ownsRow_succ hown; have HO7 := Zh hown; have HG7 := Zh hgr; have HL7 := Zh (HL6.out.grown hgr (fun e => by have := (HR6.out.lt _ e.symm).1; omega)); have c7 : w7.cell? ⟨B + 2, 0, none⟩ = some V := HL7.out.cell 0; have f7 : w7.frozen? ⟨B + 2, 0, none⟩ = false := HL7.out.frozen 0
             clear hown hgr)
          | fail)
        have hB6 : Below B w W6 := hW6 ▸ HBL5.out.alloc (by have := HSA.out; omega) _; have hB7 : Below B w w7 := hB6.grown HG7.out (by have := hB6.size; have := HF6.out.size; have := HSA.out; omega) (fun k e => by have := (HR6.out.lt k e).1; omega); have hKeep : KeepsOthers w5 w7 := (hW6 ▸ KeepsOthers.alloc w5 _ : KeepsOthers w5 W6).trans (keeps_row HR6.out HG7.out); refine ⟨(keeps_of_below _ HF5.out).trans ((hKeep.trans (KeepsOthers.setCell _ ⟨B + 2, 0, none⟩ _)).from _), ?_, _, HL7.out.set_ 0 _, ?_, ?_, ?_, ?_, ?_, ?_⟩
        · have h1 := HPI.out.siz
          refine Eq.trans (Below.heap_setCell w7 ⟨B + 2, 0, none⟩ _ (B + 3) (by show B + 3 ≠ B + 2; omega)) (Eq.trans (HG7.out.block (B + 3) (by have := HF6.out.size; have := HSA.out; omega) (fun e => by have := (HR6.out.lt _ e.symm).1; omega)) (Eq.trans (HF6.out.block (B + 3) (by have := HSA.out; omega)) (HF5.out.block (B + 3) (by omega))))
        · rw [List.length_append, flds_snoc, HD.out]
          have := HO7.out; have hl : Fr3 w7 (B + 4) (Value.slice (some ⟨g', 0, none⟩) (pre.length + 1) cap') (pre.length + 1) (flds pre ++ [(d1, d2, d3)]) := by unfold Fr3; rw [encL_snoc]; exact this
          exact fr3_keep hl (fun j h1 h2 => Below.heap_setCell w7 ⟨B + 2, 0, none⟩ _ j (by show j ≠ B + 2; omega))
        · exact ((HA5.out.below HF6.out HA5.out.lt).grown HG7.out (fun e => by have := (HR6.out.lt _ e.symm).1; omega)).far (p := ⟨B + 2, 0, none⟩) (by show B ≠ B + 2; omega) _
        · exact ((HZ5.out.below HF6.out HZ5.out.lt).grown HG7.out (fun e => by have := (HR6.out.lt _ e.symm).1; omega)).far (p := ⟨B + 2, 0, none⟩) (by show B + 1 ≠ B + 2; omega) _
        · exact hB7.setCell (p := ⟨B + 2, 0, none⟩) (by show B ≤ B + 2; omega) _
        · rw [List.any_append, HPI.out.ok, List.any_cons, HDE.out, hde]; rfl
        · rw [show (w7.setCell ⟨B + 2, 0, none⟩ (Value.slice (some ⟨g', 0, none⟩) (pre.length + 1) cap')).heap.size = w7.heap.size from by simp [World.setCell]]
          have := HG7.out.size; have := HF6.out.size; have := HSA.out; omega
      · have hdb : (de != 0) = true := by simpa using hde
        have e1 : w5.cell? ⟨B, 0, none⟩ = some (.slice none 0 0) := HA5.out.cell 0; have e2 : w5.frozen? ⟨B, 0, none⟩ = false := HA5.out.frozen 0; obtain ⟨w6, hw6⟩ : ∃ w6, w5.setCell ⟨B, 0, none⟩ (.slice none 0 0) = w6 := ⟨_, rfl⟩; have HA6 := Zh (show Blk w6 B 85 #[.slice none 0 0] from hw6 ▸ HA5.out.set_ 0 _); have HZ6 := Zh (show Blk w6 (B + 1) 30 #[.int .i64 0] from hw6 ▸ HZ5.out.far (p := ⟨B, 0, none⟩) (by show B + 1 ≠ B; omega) _); have e3 : w6.cell? ⟨B + 1, 0, none⟩ = some (.int .i64 0) := HZ6.out.cell 0; have e4 : w6.frozen? ⟨B + 1, 0, none⟩ = false := HZ6.out.frozen 0
        gi_wp2
        refine ⟨(keeps_of_below _ HF5.out).trans (hw6 ▸ ((KeepsOthers.setCell w5 ⟨B, 0, none⟩ (.slice none 0 0)).trans (KeepsOthers.setCell _ ⟨B + 1, 0, none⟩ (.int .i64 1))).from _), rfl, HA6.out.far (p := ⟨B + 1, 0, none⟩) (by show B ≠ B + 1; omega) _, HZ6.out.set_ 0 _, ?_, ?_⟩
        · exact ((hw6 ▸ HBL5.out.setCell (p := ⟨B, 0, none⟩) (Nat.le_refl _) _ : Below B w w6)).setCell (p := ⟨B + 1, 0, none⟩) (by show B ≤ B + 1; omega) _
        · rw [List.any_append, List.any_cons, HDE.out, hdb]; simp
    case done =>
      rintro D xs W hD rfl ⟨V, hpi⟩ hKD; obtain ⟨L, hL⟩ : ∃ L, flds (linesB s) = L := ⟨_, rfl⟩; obtain ⟨n, hn⟩ : ∃ n, (linesB s).length = n := ⟨_, rfl⟩; have hLn : L.length = n := by rw [← hL, ← hn]; unfold flds; rw [List.length_map]
      have hrow := hpi.row; rw [hL, hn] at hrow; obtain ⟨A, cap, g, rfl, hFv⟩ := fr3_fv hrow hLn; have hn9 : n ≤ 900 := by rw [← hn]; have := lines_len s.size s; unfold linesB; omega
      have hvl : ∀ f ∈ L, f.2.2.size ≤ 1000000 := fun f hf => by
        rw [← hL] at hf; obtain ⟨x, hx, rfl⟩ := List.mem_map.1 hf; have h1 := fof_size x; have h2 := lines_mem_size _ _ x hx
        omega
      have HT := Zh (text_any hFv (by omega) hvl (HE.out.on (HBW.out ▸ hpi.bel))); have HPI := Zh hpi; have HROW := Zh hrow; have HKD := Zh hKD; have hPN : parL s = if (txtL L).2 ≠ 0 ∨ (txtL L).1 ≠ s then ([], 1) else (L, 0) := by rw [HPL.out, if_neg (by rw [hpi.ok]; simp), hL]
      obtain ⟨tv, te, htv⟩ : ∃ tv te, txtL L = (tv, te) := ⟨_, _, rfl⟩; rw [htv] at HT hPN; rw [hLn] at HT; rw [HP.out] at hPN; have HPN := Zh hPN; have HLN := Zh hLn; have c4 : W.cell? ⟨B + 2, 0, none⟩ = some (.slice A n cap) := hpi.lst.cell 0; clear hL hn hLn hFv hvl hpi hrow hKD hPN htv HPL
      go_wp2_with fail
      refine HT.out.mono ?_; rintro _ W1 ⟨rfl, hb⟩; have HB1 := Zh hb; have hL1 := HPI.out.lst.below hb HPI.out.lst.lt; have hA1 := HPI.out.r1.below hb HPI.out.r1.lt; have hZ1 := HPI.out.r2.below hb HPI.out.r2.lt; have hBB : Below B w W1 := HPI.out.bel.trans (hb.mono (by have := HPI.out.siz; omega)); have hR1 := fr3_keep HROW.out (fun j _ hj => hb.block j hj); have hK1 : W1.heap[D]? = some (.deferred (some [])) := (hb.block D (Array.getElem?_eq_some_iff.1 HKD.out).1).trans HKD.out; have HDD := Zh (show B + 4 ≤ D from by have := HS0.out; omega); have fin : ∀ (R : Value) (m : Nat) (M : List F3) (er : Int), Fr3 W1 (B + 4) R m M → ((W1.setCell ⟨B, 0, none⟩ R).setCell ⟨B + 1, 0, none⟩ (.int .i64 er)).heap[D]? = some (.deferred (some [])) ∧ Pg w B ((W1.setCell ⟨B, 0, none⟩ R).setCell ⟨B + 1, 0, none⟩ (.int .i64 er)) R m M er := fun R m M er hr => by
        have hD4 := HDD.out; refine ⟨Eq.trans (Below.heap_setCell _ ⟨B + 1, 0, none⟩ _ D (by show D ≠ B + 1; omega)) (Eq.trans (Below.heap_setCell W1 ⟨B, 0, none⟩ _ D (by show D ≠ B; omega)) hK1), ?_, ?_, ?_, ?_⟩
        · exact (hA1.set_ 0 R).far (p := ⟨B + 1, 0, none⟩) (by show B ≠ B + 1; omega) _
        · exact (hZ1.far (p := ⟨B, 0, none⟩) (by show B + 1 ≠ B; omega) _).set_ 0 _
        · exact fr3_keep hr (fun j h1 h2 => Eq.trans (Below.heap_setCell _ ⟨B + 1, 0, none⟩ _ j (by show j ≠ B + 1; omega)) (Below.heap_setCell W1 ⟨B, 0, none⟩ _ j (by show j ≠ B; omega)))
        · exact (hBB.setCell (p := ⟨B, 0, none⟩) (Nat.le_refl _) _).setCell (p := ⟨B + 1, 0, none⟩) (by show B ≤ B + 1; omega) _
      have HFIN := Zh fin; have HR1 := Zh hR1; have e1 : W1.cell? ⟨B, 0, none⟩ = some (.slice none 0 0) := hA1.cell 0; have e2 : W1.frozen? ⟨B, 0, none⟩ = false := hA1.frozen 0; have c5 : W1.cell? ⟨B + 2, 0, none⟩ = some (.slice A n cap) := hL1.cell 0; have hst : ∀ R, (W1.setCell ⟨B, 0, none⟩ R).cell? ⟨B + 1, 0, none⟩ = some (.int .i64 0) ∧ (W1.setCell ⟨B, 0, none⟩ R).frozen? ⟨B + 1, 0, none⟩ = false := fun R => by
        have := hZ1.far (p := ⟨B, 0, none⟩) (by show B + 1 ≠ B; omega) R
        exact ⟨this.cell 0, this.frozen 0⟩
      clear hb hL1 hA1 hZ1 hBB hR1 hK1 fin c4
      by_cases hte : te = 0
      · have b1 : (te != 0) = false := by simpa using hte
        by_cases htv : tv = s
        · have b2 : (tv.toList == s.toList) = true := by rw [htv]; exact beq_self_eq_true _
          have HR := Zh (show (pv, pe) = ((L, 0) : List F3 × Int) from by rw [HPN.out, if_neg (by simp only [hte, htv]; simp)]); obtain ⟨w6, hw6⟩ : ∃ w6, W1.setCell ⟨B, 0, none⟩ (.slice A n cap) = w6 := ⟨_, rfl⟩; obtain ⟨e3, e4⟩ := hst (.slice A n cap); rw [hw6] at e3 e4; clear hte htv hst
          go_wp2_with fail
          obtain ⟨f1, f2⟩ := HFIN.out _ _ _ 0 HR1.out; rw [hw6] at f1 f2; obtain ⟨rfl, rfl⟩ := Prod.mk.inj HR.out
          exact f2.leave HDD.out f1 rfl rfl (fun W h => by
            obtain ⟨A', cap', g', e, hf⟩ := fr3_fv h.row HLN.out
            exact ⟨h.bel, A', cap', g', by rw [HLN.out]; rw [e], hf⟩)
        · have b2 : (tv.toList == s.toList) = false := Day.ne_str htv
          have HR := Zh (show (pv, pe) = (([], 1) : List F3 × Int) from by rw [HPN.out, if_pos (.inr htv)]); obtain ⟨w6, hw6⟩ : ∃ w6, W1.setCell ⟨B, 0, none⟩ (.slice none 0 0) = w6 := ⟨_, rfl⟩; obtain ⟨e3, e4⟩ := hst (.slice none 0 0); rw [hw6] at e3 e4; clear hte htv hst
          go_wp2_with fail
          obtain ⟨f1, f2⟩ := HFIN.out (.slice none 0 0) 0 [] 1 ⟨rfl, .inl ⟨rfl, rfl⟩⟩; rw [hw6] at f1 f2; obtain ⟨rfl, rfl⟩ := Prod.mk.inj HR.out
          exact f2.leave HDD.out f1 rfl rfl (fun W h => ⟨h.bel, none, 0, 0, rfl, fv_nil _ _ _ _⟩)
      · have b1 : (te != 0) = true := by simpa using hte
        have HR := Zh (show (pv, pe) = (([], 1) : List F3 × Int) from by rw [HPN.out, if_pos (.inl hte)]); obtain ⟨w6, hw6⟩ : ∃ w6, W1.setCell ⟨B, 0, none⟩ (.slice none 0 0) = w6 := ⟨_, rfl⟩; obtain ⟨e3, e4⟩ := hst (.slice none 0 0); rw [hw6] at e3 e4; clear hte hst
        go_wp2_with fail
        obtain ⟨f1, f2⟩ := HFIN.out (.slice none 0 0) 0 [] 1 ⟨rfl, .inl ⟨rfl, rfl⟩⟩; rw [hw6] at f1 f2; obtain ⟨rfl, rfl⟩ := Prod.mk.inj HR.out
        exact f2.leave HDD.out f1 rfl rfl (fun W h => ⟨h.bel, none, 0, 0, rfl, fv_nil _ _ _ _⟩)
    case stop =>
      rintro D c pre W hD hSp ⟨rfl, hpx⟩ hKD; refine wpIn_ret ?_; have HR := Zh (show (pv, pe) = (([], 1) : List F3 × Int) from by rw [← HP.out]; exact parL_bad (any_of_prefix hSp hpx.bad))
      go_simp
      obtain ⟨rfl, rfl⟩ := Prod.mk.inj HR.out
      exact Pg.leave (Rv := .slice none 0 0) (n := 0) (L := []) (er := 1) ⟨hpx.r1, hpx.r2, ⟨rfl, .inl ⟨rfl, rfl⟩⟩, hpx.bel⟩ (by have := HS0.out; omega) hKD rfl rfl (fun W h => ⟨h.bel, none, 0, 0, rfl, fv_nil _ _ _ _⟩)
end Go.Proofs.YtphijnkiiokieaaGreatDoor
namespace Go.Proofs.YtphijnkiiokieaaGreatDoor
open Go.RowKit
open Go.Lib hiding intOf
open Go.Sort Go.Proofs
def isC (s : ByteArray) : Bool := (parL s).2 == 0
theorem errL_zero : ∀ L : List F3, errL L = 0 ↔ ∀ f ∈ L, (cn1 f).2 = 0
 | [] => by simp [errL]
 | f :: L => by
  unfold errL
  by_cases h : (cn1 f).2 = 0
  ·
   rw [if_pos h, errL_zero L]
   simp [h]
  ·
   rw [if_neg h]
   simp [h]
theorem fr3_app {P : Program} {ops : Array Oper} {rest : List Oper} {o : Oper} {a : Act} {Q : Exit → Act → World → Prop} (w : World) (hgd : o.guard = none) (s x : Operand) (t : TypeId)
  (ho : o.op = .call { callee := .builtin .append, args := #[s, x], argTypes := #[t, t] }) (ht : P.underlying t = some (.slice 92)) (hinf : (P.info? 92).map (fun i => (i.zero, i.size, i.bytes)) = some (some (.agg #[.int .i64 0, .int .i64 0, .string ⟨#[]⟩]), 3, 32))
  (B : Nat) (V : Value) (n : Nat) (L : List F3) (hs : a.eval s = V) (h : Fr3 w B V n L) (ad : Addr) (m c : Nat) (M : List F3) (hm : M.length = m) (hx : a.eval x = .slice (some ad) m c) (hM : ∀ j u, (encL M)[j]? = some u → w.cell? (ad.add j) = some u) (hn : n + m ≤ 1000000) (hB : B ≤ w.heap.size)
  (hK : ∀ V' w', Fr3 w' B V' (n + m) (L ++ M) → w.grownBy w' V.ownBlock → wpList P ops Q rest (a.put o.dst V') w') : wpList P ops Q (o :: rest) a w := by
 obtain ⟨i, hi, hz, hsz, hby⟩ := info_of hinf; have hl : ∀ M : List F3, (encL M).length = M.length * 3 := fun M => by
  induction M with
  | nil => rfl
  | cons f M ih =>
   have e : encL (f :: M) = encF f ++ encL M := by unfold encL; simp
   rw [e, List.length_append, ih, List.length_cons]
   show 3 + _ = _
   omega
 refine wpList_append_own_at (w := w) hgd s x t ho B 92 i _ 3 32 ht hi hz hsz hby rfl (by decide) V n (encL L) hs h ad m c (encL M) hx (by rw [hl, hm]) hM ?c2 ?c3 ?c4 hB ?_
 case c2 =>
  intro y hy
  unfold encL at hy
  rw [List.mem_flatten] at hy; obtain ⟨l, h1, h2⟩ := hy; rw [List.mem_map] at h1; obtain ⟨f, _, rfl⟩ := h1
  unfold encF at h2
  simp at h2
  rcases h2 with rfl | rfl | rfl <;> rfl
 case c3 => unfold maxLen; omega
 case c4 => omega
 intro v' w' h1 h2 _ _; refine hK v' w' ?_ h2
 unfold Fr3
 have e : encL (L ++ M) = encL L ++ encL M := by unfold encL; simp
 rw [e]
 exact h1
theorem encL_append (L M : List F3) : encL (L ++ M) = encL L ++ encL M := by unfold encL; simp
theorem fv_cells {w : World} {A : Option Addr} {cap b off : Nat} {L : List F3} (h : Fv w A cap b off L) (k : Nat) (j : Nat) (u : Value) (hj : (encL (L.drop k))[j]? = some u) : w.cell? ((⟨b, off + k * 3, none⟩ : Addr).add j) = some u := by
 rw [encL_get, List.getElem?_drop] at hj
 cases hf : L[k + j / 3]? with
 | none => rw [hf] at hj; cases hj
 | some f =>
  rw [hf] at hj; simp only at hj; obtain ⟨_, _, c0, c1, c2⟩ := h.2 _ f hf; have h3 : j % 3 < 3 := Nat.mod_lt _ (by decide); have e : (⟨b, off + k * 3, none⟩ : Addr).add j = ⟨b, off + (k + j / 3) * 3 + j % 3, none⟩ := by
   rw [add_plain]
   congr 1
   omega
  rw [e]
  match j % 3, h3, hj with
  | 0, _, hj => cases hj; exact c0
  | 1, _, hj => cases hj; exact c1
  | 2, _, hj => cases hj; exact c2
theorem cells_take {w : World} {ad : Addr} {L : List F3} (k : Nat) (h : ∀ j u, (encL L)[j]? = some u → w.cell? (ad.add j) = some u) : ∀ j u, (encL (L.take k))[j]? = some u → w.cell? (ad.add j) = some u := fun j u hj => by
 refine h j u ?_; have e : encL L = encL (L.take k) ++ encL (L.drop k) := by rw [← encL_append, List.take_append_drop]
 rw [e, List.getElem?_append_left (List.getElem?_eq_some_iff.1 hj).1]
 exact hj
theorem cn1_ok {f : F3} (h : (cn1 f).2 = 0) : mayF (cn1 f).1.1 (cn1 f).1.2.1 (cn1 f).1.2.2 = true ∧ cn1 (cn1 f).1 = ((cn1 f).1, 0) ∧ (cn1 f).1.1 = f.1 ∧ (valueS (cn1 f).1.1 (cn1 f).1.2.2).2 = 0 := by
 obtain ⟨k, l, v⟩ := f
 unfold cn1 at h ⊢
 simp only at h ⊢
 by_cases h1 : (kindW k).toList.isEmpty = true ∨ labelledB k l = false
 ·
  rw [if_pos h1] at h
  exact absurd h (by decide)
 ·
  rw [if_neg h1] at h ⊢
  by_cases h2 : (valueS k v).2 = 0
  ·
   rw [if_pos h2] at h ⊢; have hv := value_self k v h2
   simp only
   refine ⟨?_, by rw [if_neg h1, hv, if_pos rfl], trivial, by rw [hv]⟩; have h3 : (kindW k).toList.isEmpty = false := by
    cases hh : (kindW k).toList.isEmpty with
    | true => exact absurd (.inl hh) h1
    | false => rfl
   have h4 : labelledB k l = true := by
    cases hh : labelledB k l with
    | false => exact absurd (.inr hh) h1
    | true => rfl
   unfold mayF
   rw [h3, h4, hv]
   simp
  ·
   rw [if_neg h2] at h
   exact absurd h h2
def Cnn (f : F3) : Prop := mayF f.1 f.2.1 f.2.2 = true ∧ cn1 f = (f, 0) ∧ (valueS f.1 f.2.2).2 = 0
theorem cnn_of {f : F3} (h : (cn1 f).2 = 0) : Cnn (cn1 f).1 := ⟨(cn1_ok h).1, (cn1_ok h).2.1, (cn1_ok h).2.2.2⟩
theorem cnn_rise {L : List F3} (h : errL L = 0) : ∀ f ∈ rise (cnA L), Cnn f := fun f hf => by
 rw [rise_mem] at hf; obtain ⟨x, hx, rfl⟩ := List.mem_map.1 hf
 exact cnn_of ((errL_zero L).1 h x hx)
structure IsCard (a : List F3) : Prop where
 cnn : ∀ f ∈ a, Cnn f
 str : Str a
 can : canO a = (a, 0)
theorem card_of {L : List F3} (h : (canL L).2 = 0) : IsCard (canL L).1 := by
 rcases canL_spec L with ⟨_, h1, h2, _⟩ | ⟨h1, _⟩
 ·
  have e := canL_ok h1; refine ⟨by rw [h2]; exact cnn_rise h1, by rw [h2]; exact rise_str _, ?_⟩; rw [h2]
  rcases canO_spec (rise (cnA L)) with ⟨h3, h4, _⟩ | ⟨h3, _⟩
  ·
   exact Prod.ext h4 h3
  ·
   rw [e] at h; exact absurd h h3
 ·
  exact absurd h h1
theorem card_nums {a : List F3} (h : IsCard a) : a.length ≤ 12 ∧ (txt a).size ≤ 900 ∧ cnt 1 a = 1 ∧ cnt 2 a ≤ 1 ∧ cnt 5 a ≤ 1 := by
 rcases canO_spec a with ⟨_, _, h3⟩ | ⟨h1, _⟩
 ·
  exact h3
 ·
  rw [h.can] at h1; exact absurd rfl h1
theorem size_bs (l : List UInt8) : (⟨l.toArray⟩ : ByteArray).size = l.length := by show l.toArray.size = _; simp
theorem lineOf_cut (x r : List UInt8) (h : (10 : UInt8) ∉ x) : lineOf ⟨(x ++ 10 :: r).toArray⟩ = (⟨(x ++ [10]).toArray⟩, ⟨r.toArray⟩) := by
 have hi : indexByte (x ++ 10 :: r) 10 = (x.length : Int) := by rw [← index_one]; exact index_has x r 10 h
 unfold lineOf
 rw [show (⟨(x ++ 10 :: r).toArray⟩ : ByteArray).data.toList = x ++ 10 :: r from rfl, hi, if_pos (by omega), Int.toNat_natCast, size_bs]; refine Prod.ext ?_ ?_
 ·
  refine bs_ext ?_; simp only [ByteArray.data_extract, Array.toList_extract]
  simp
  rw [List.take_append, List.take_of_length_le (by omega), show x.length + 1 - x.length = 1 by omega]
  rfl
 ·
  refine bs_ext ?_; simp only [ByteArray.data_extract, Array.toList_extract]
  simp
  exact List.take_of_length_le (by omega)
theorem trim_line (x : List UInt8) : trimN ⟨(x ++ [10]).toArray⟩ = ⟨x.toArray⟩ := by
 have e0 : (⟨(x ++ [10]).toArray⟩ : ByteArray).data.toList = x ++ [10] := rfl
 unfold trimN
 rw [e0]; have hs : hasSuffix (x ++ [10]) [10] = true := by
  unfold hasSuffix
  simp
 unfold Lib.trimSuffix
 rw [if_pos hs]
 simp
theorem txt_flat (a : List F3) : txt a = ⟨((a.map lnB).flatten).toArray⟩ := by unfold txt lnL; rw [List.take_length]
theorem cnt_all (k : Int) (L : List F3) : cnt k L = (L.filter fun f => f.1 == k).length := by unfold cnt cntF; rw [List.take_length]
theorem label_name {l : Int} (h : labelledB 1 l = true) : l = 0 := by
 unfold labelledB at h
 by_cases h0 : l = 0
 ·
  exact h0
 ·
  exfalso
  simp [h0] at h
theorem card_head {a : List F3} (h : IsCard a) : ∃ v rest, a = (1, 0, v) :: rest ∧ Cnn (1, 0, v) ∧ cnt 1 rest = 0 := by
 have h1 := (card_nums h).2.2.1; rw [cnt_all] at h1; obtain ⟨f, hf⟩ : ∃ f, f ∈ a.filter fun f => f.1 == 1 := List.exists_mem_of_length_pos (by omega)
 obtain ⟨hf1, hf2⟩ := List.mem_filter.1 hf; have hf3 : f.1 = 1 := by simpa using hf2
 match a, h, h1, hf1 with
 | g :: rest, h, h1, hf1 =>
  have hg := h.cnn g List.mem_cons_self; have hgm := may_kinds hg.1; have hg1 : g.1 = 1 := by
   rcases List.mem_cons.1 hf1 with e | hr
   ·
    rw [← e]; exact hf3
   ·
    have hlt := (List.pairwise_cons.1 h.str).1 f hr
    unfold ltF lessF at hlt
    by_cases he : g.1 = f.1
    ·
     rw [he]; exact hf3
    ·
     rw [if_neg he] at hlt; have := of_decide_eq_true hlt
     omega
  obtain ⟨g1, g2, g3⟩ := g; simp only at hg1; subst hg1; have hl : g2 = 0 := by
   have hm := hg.1; simp only at hm
   unfold mayF at hm
   simp only [Bool.and_eq_true] at hm
   exact label_name (by first | exact hm.1.1.2 | exact hm.1.2 | exact hm.2.1.1 | exact hm.1.1.1.2)
  subst hl; refine ⟨g3, rest, rfl, hg, ?_⟩; rw [List.filter_cons, if_pos (by rfl), List.length_cons] at h1; rw [cnt_all]
  omega
theorem cis_any (s : ByteArray) (hs : s.size ≤ 1000000) (w : World) (hE : Env w) : Calls Tryz.prog 65 #[.string s] w fun e w' => e = .returned (.bool (isC s)) ∧ Below w.heap.size w w' := by
 have HP := Zh (parse_any s hs w hE); obtain ⟨pv, pe, hp⟩ : ∃ pv pe, parL s = (pv, pe) := ⟨_, _, rfl⟩; obtain ⟨r, hr⟩ : ∃ r, isC s = r := ⟨_, rfl⟩; have HR := Zh (show (pe == 0) = r from by rw [← hr]; unfold isC; rw [hp]); rw [hp] at HP; rw [hr]; simp only at HP; clear hp hr hE
 go_enter Tryz.func65, Tryz.ntmps65
 go_wp2_with fail
 refine HP.out.mono ?_; rintro e w1 ⟨hb, A, cap, g, rfl, _⟩; have HB := Zh hb; clear hb
 cases hh : (pe == 0) with
 | true =>
  have HR2 := Zh (show true = r from hh ▸ HR.out)
  go_wp2
  go_ret
  exact ⟨by rw [← HR2.out]; rfl, HB.out⟩
 | false =>
  have HR2 := Zh (show false = r from hh ▸ HR.out)
  go_wp2
  go_ret
  exact ⟨by rw [← HR2.out]; rfl, HB.out⟩
end Go.Proofs.YtphijnkiiokieaaGreatDoor
namespace Go.Proofs.YtphijnkiiokieaaGreatDoor
open Go.RowKit
open Go.Lib hiding intOf
def nz (s : ByteArray) : Bool := !(s.toList.isEmpty)
def nzC (k v : Int) : Bool := !(k == 0 && v == 0)
def nzI (n : Int) : Bool := n != 0
def nzO (l : List Opn) : Bool := decide (l.length ≠ 0)
def extraB (q : Rq) : Bool := !hT q.k && nz q.t || !hC q.k && nz q.co || !hU q.k && nz q.u || !hK q.k && nz q.c || !hN q.k && nzC q.ck q.cv || !hO q.k && nzO q.ops || !hW q.k && nzI q.tok || !hM q.k && nzI q.mo || !hI q.k && nzI q.ti
def okD (o : Opn) : Bool := !(o.d && nz o.c)
def okU (o : Opn) : Bool := Id.uidB o.u.data.toList
def okF (o : Opn) : Bool := (o.d || isC o.c) && Et.mayB o.k o.v
def headN (q : Rq) : Bool := (!hT q.k || Id.nameB q.t.data.toList) && (!hC q.k || Id.nameB q.co.data.toList) && (!hU q.k || Id.uidB q.u.data.toList)
def headF (q : Rq) : Bool := (!hK q.k || isC q.c) && Et.mayB q.ck q.cv
def rangQ (q : Rq) : Bool := (!hO q.k || decide (1 ≤ q.ops.length) && decide (q.ops.length ≤ 8)) && (!hM q.k || decide (1 ≤ q.mo) && decide (q.mo ≤ 1000)) && decide (0 ≤ q.tok) && decide (0 ≤ q.ti) && decide (q.ti ≤ 1048576)
def kindB (k : Int) : Bool := decide (1 ≤ k) && decide (k ≤ 11)
def checkQ (q : Rq) : Int :=
 if kindB q.k = false then 12 else if (extraB q || !q.ops.all okD) = true then 1 else if (headN q && q.ops.all okU) = false then 3
 else if (headF q && q.ops.all okF) = false then 1 else if rangQ q = false then 12 else 0
theorem nz_false {s : ByteArray} (h : nz s = false) : s = bE := by
 unfold nz at h
 have h1 : s.toList.isEmpty = true := by simpa using h
 have h2 : s.toList = [] := List.isEmpty_iff.1 h1; rw [ByteArray.toList_eq] at h2
 exact ByteArray.ext (Array.toList_inj.1 h2)
theorem isC_size {s : ByteArray} (h : isC s = true) : s.size ≤ 900 := by
 unfold isC parL at h
 split at h
 ·
  cases h
 ·
  rename_i h1
  omega
theorem may_range {k v : Int} (h : Et.mayB k v = true) : 0 ≤ k ∧ k ≤ 3 ∧ 0 ≤ v := by
 unfold Et.mayB at h
 split at h
 ·
  have : v = 0 := by simpa using h
  omega
 ·
  split at h
  ·
   have := of_decide_eq_true h
   omega
  ·
   cases h
theorem uid_size {s : ByteArray} (h : Id.uidB s.data.toList = true) : s.size ≤ 24 := by
 unfold Id.uidB at h
 simp only [Bool.and_eq_true, decide_eq_true_eq] at h; have := h.1.2; rw [Array.length_toList] at this
 exact this
theorem name_size {s : ByteArray} (h : Id.nameB s.data.toList = true) : s.size ≤ 16 := by
 unfold Id.nameB at h
 simp only [Bool.and_eq_true, decide_eq_true_eq] at h; have := h.1.1.1.2; rw [Array.length_toList] at this
 exact this
structure WfQ (q : Rq) : Prop where
 cv : q.cv < 9223372036854775808
 tok : q.tok < 9223372036854775808
 mo : q.mo < 9223372036854775808
 ti : q.ti < 9223372036854775808
 ck : q.ck < 9223372036854775808
 ops : ∀ o ∈ q.ops, WfO o
theorem check_ok {q : Rq} (h : checkQ q = 0) : kindB q.k = true ∧ extraB q = false ∧ q.ops.all okD = true ∧ headN q = true ∧ q.ops.all okU = true ∧ headF q = true ∧ q.ops.all okF = true ∧ rangQ q = true := by
 unfold checkQ at h
 split at h
 ·
  cases h
 ·
  rename_i h1
  split at h
  ·
   cases h
  ·
   rename_i h2
   split at h
   ·
    cases h
   ·
    rename_i h3
    split at h
    ·
     cases h
    ·
     rename_i h4
     split at h
     ·
      cases h
     ·
      rename_i h5
      simp only [Bool.not_eq_false, Bool.not_eq_true, Bool.or_eq_false_iff, Bool.and_eq_true, Bool.not_eq_false'] at h1 h2 h3 h4 h5
      exact ⟨h1, h2.1, h2.2, h3.1, h3.2, h4.1, h4.2, h5⟩
theorem gdq_of {q : Rq} (h : checkQ q = 0) (w : WfQ q) : GdQ q := by
 obtain ⟨h1, h2, h3, h4, h5, h6, h7, h8⟩ := check_ok h
 unfold extraB at h2
 simp only [Bool.or_eq_false_iff, Bool.and_eq_false_iff, Bool.not_eq_false'] at h2; obtain ⟨⟨⟨⟨⟨⟨⟨⟨a1, a2⟩, a3⟩, a4⟩, a5⟩, a6⟩, a7⟩, a8⟩, a9⟩ := h2
 unfold headN at h4
 simp only [Bool.and_eq_true, Bool.or_eq_true, Bool.not_eq_true'] at h4; obtain ⟨⟨b1, b2⟩, b3⟩ := h4
 unfold headF at h6
 simp only [Bool.and_eq_true, Bool.or_eq_true, Bool.not_eq_true'] at h6; obtain ⟨c1, c2⟩ := h6; have c3 := may_range c2
 unfold rangQ at h8
 simp only [Bool.and_eq_true, Bool.or_eq_true, Bool.not_eq_true', decide_eq_true_eq] at h8; obtain ⟨⟨⟨⟨d1, d2⟩, d3⟩, d4⟩, d5⟩ := h8; rw [List.all_eq_true] at h3 h5 h7; have zo : hO q.k = false → q.ops = [] := fun e => by
  have : nzO q.ops = false := a6.resolve_left (by rw [e]; decide)
  unfold nzO at this
  simpa using this
 have z1 : ∀ {b : Bool} {n : Int}, (b = true ∨ nzI n = false) → b = false → n = 0 := fun h e => by
  have := h.resolve_left (by rw [e]; decide)
  unfold nzI at this
  simpa using this
 have z2 : ∀ {b : Bool} {s : ByteArray}, (b = true ∨ nz s = false) → b = false → s = bE := fun h e => nz_false (h.resolve_left (by rw [e]; decide))
 have sz : ∀ {b : Bool} {s : ByteArray} {p : Bool}, (b = true ∨ nz s = false) → (b = false ∨ p = true) → (p = true → s.size ≤ 20000) → s.size ≤ 20000 := fun {b s p} h1 h2 h3 => by
  cases b with
  | true => exact h3 (h2.resolve_left (by decide))
  | false => rw [z2 h1 rfl]; exact Nat.zero_le _
 refine ⟨sz a1 b1 (fun h => by have := name_size h; omega), z2 a1, sz a2 b2 (fun h => by have := name_size h; omega), z2 a2, sz a3 b3 (fun h => by have := uid_size h; omega), z2 a3, sz a4 c1 (fun h => by have := isC_size h; omega), z2 a4,
  c3.1, by omega, c3.2.2, w.cv, fun e => ?_, ?_, fun o ho => ?_, zo, d3, w.tok, z1 a7, ?_, ?_, z1 a8, d4, by omega, z1 a9⟩
 ·
  have := a5.resolve_left (by rw [e]; decide)
  unfold nzC at this
  simpa using this
 ·
  cases hh : hO q.k with
  | true => have := d1.resolve_left (by rw [hh]; decide); omega
  | false => rw [zo hh]; exact Nat.zero_le _
 ·
  have g1 := h5 o ho; have g2 := h7 o ho; have g3 := h3 o ho
  unfold okU at g1
  unfold okF at g2
  unfold okD at g3
  simp only [Bool.and_eq_true, Bool.or_eq_true] at g2; have g4 := may_range g2.2; have gz : o.d = true → o.c = bE := fun e => nz_false (by simpa [e] using g3)
  refine ⟨by have := uid_size g1; omega, ?_, gz, g4.1, by omega, g4.2.2, (w.ops o ho).v⟩
  rcases g2.1 with e | e
  ·
   rw [gz e]; exact Nat.zero_le _
  ·
   have := isC_size e; omega
 ·
  cases hh : hM q.k with
  | true => have := d2.resolve_left (by rw [hh]; decide); omega
  | false => rw [z1 a8 hh]; exact Int.le_refl 0
 ·
  cases hh : hM q.k with
  | true => have := d2.resolve_left (by rw [hh]; decide); omega
  | false => rw [z1 a8 hh]; decide
end Go.Proofs.YtphijnkiiokieaaGreatDoor
