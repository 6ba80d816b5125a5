/- card: Is, Title. -/
import Derived.Test.YtphijnkiiokieaaGreatDoorZao
import Derived.Test.YtphijnkiiokieaaGreatDoorZap
import Derived.RangeFuncWrites
import Derived.RangeFuncBox
import Derived.Maps.AppendAt
/- card: Text; what Parse reads. -/
namespace Go.Proofs.YtphijnkiiokieaaGreatDoor
open Go.RowKit
open Go.Lib hiding intOf
open Go.Sort Go.Proofs
set_option linter.unusedVariables false
set_option linter.unusedSimpArgs false
set_option maxRecDepth 100000
theorem canO_spec (own : List F3) : ((canO own).2 = 0 ∧ (canO own).1 = own ∧ own.length ≤ 12 ∧ (txt own).size ≤ 900 ∧ cnt 1 own = 1 ∧ cnt 2 own ≤ 1 ∧ cnt 5 own ≤ 1) ∨ ((canO own).2 ≠ 0 ∧ (canO own).1 = []) := by
  unfold canO
  split
  · exact .inr ⟨by decide, rfl⟩
  · split
    · exact .inr ⟨by decide, rfl⟩
    · split
      · exact .inr ⟨by decide, rfl⟩
      · exact .inl ⟨rfl, rfl, by omega, by omega, by omega, by omega, by omega⟩
theorem canL_spec (L : List F3) : ((canL L).2 = 0 ∧ errL L = 0 ∧ (canL L).1 = rise (cnA L) ∧ (canL L).1.length ≤ 12 ∧ (txt (canL L).1).size ≤ 900) ∨ ((canL L).2 ≠ 0 ∧ (canL L).1 = []) := by
  by_cases h : errL L = 0
  · have e := canL_ok h
    rcases canO_spec (rise (cnA L)) with ⟨h1, h2, h3, h4, _⟩ | ⟨h1, h2⟩
    · exact .inl ⟨by rw [e]; exact h1, h, by rw [e]; exact h2, by rw [e, h2]; exact h3, by rw [e, h2]; exact h4⟩
    · exact .inr ⟨by rw [e]; exact h1, by rw [e]; exact h2⟩
  · have e := canL_err rfl h
    exact .inr ⟨by rw [e]; exact h, by rw [e]⟩
def txtL (L : List F3) : ByteArray × Int := if (canL L).2 = 0 then (txt (canL L).1, 0) else (⟨#[]⟩, (canL L).2)
set_option maxHeartbeats 2000000 in
theorem text_any {w : World} {A : Option Addr} {cap b off : Nat} {L : List F3} (h : Fv w A cap b off L) (hn : L.length ≤ 1000) (hv : ∀ f ∈ L, f.2.2.size ≤ 1000000) (hE : Env w) :
    Calls Tryz.prog 88 #[.slice A L.length cap] w fun e w' => e = .returned (.tuple #[.string (txtL L).1, .int .i64 (txtL L).2]) ∧ Below w.heap.size w w' := by
  have HC := Lib.hid (canon_any h hn hv hE)
  have HE := Lib.hid hE
  have HSP := Lib.hid (canL_spec L)
  have HT : Hid (txtL L = if (canL L).2 = 0 then (txt (canL L).1, 0) else (⟨#[]⟩, (canL L).2)) := Lib.hid rfl
  have HV := Lib.hid (@cnA_size L)
  obtain ⟨n, hnn⟩ : ∃ n, L.length = n := ⟨_, rfl⟩
  obtain ⟨own, er, hres⟩ : ∃ own er, canL L = (own, er) := ⟨_, _, rfl⟩
  obtain ⟨tv, te, htv⟩ : ∃ tv te, txtL L = (tv, te) := ⟨_, _, rfl⟩
  rw [hres] at HC HSP HT
  rw [htv] at HT ⊢
  rw [hnn] at HC ⊢
  simp only at HC HSP HT ⊢
  clear h hn hv hE hres htv hnn
  go_enter Tryz.func88, Tryz.ntmps88
  go_wp2_with fail
  refine HC.out.mono ?_
  rintro e w1 ⟨hb, A1, c1, g1, rfl, hf⟩
  have HB1 := Lib.hid hb
  have HF1 := Lib.hid hf
  have HE1 := Lib.hid (HE.out.on hb)
  clear hb hf HC
  by_cases he : er = 0
  · subst he
    obtain ⟨rfl, rfl⟩ := Prod.mk.inj (HT.out.trans (if_pos rfl))
    have hsp : own = rise (cnA L) ∧ own.length ≤ 12 := by
      rcases HSP.out with ⟨_, _, h1, h2, _⟩ | ⟨h, _⟩
      · exact ⟨h1, h2⟩
      · exact absurd rfl h
    have HL := Lib.hid (lines_any HF1.out (by have := hsp.2; omega) (fun f hf => by rw [hsp.1] at hf; have := HV.out f hf; omega) HE1.out.t HE1.out.m HE1.out.d)
    obtain ⟨m, hm⟩ : ∃ m, own.length = m := ⟨_, rfl⟩
    have HTX := Lib.hid (show (⟨(lnL own m).toArray⟩ : ByteArray) = txt own from by unfold txt; rw [hm])
    rw [hm] at HL ⊢
    rw [HTX.out] at HL
    obtain ⟨tx, htx⟩ : ∃ tx, txt own = tx := ⟨_, rfl⟩
    have HTX2 := Lib.hid htx
    rw [htx] at HL
    clear hsp hm htx
    go_wp2_with fail
    refine HL.out.mono ?_
    rintro _ w2 ⟨rfl, hb⟩
    have HB2 := Lib.hid (HB1.out.trans (hb.mono HB1.out.size))
    clear hb
    go_wp2
    go_ret2
    exact ⟨by rw [HTX2.out]; rfl, HB2.out⟩
  · obtain ⟨rfl, rfl⟩ := Prod.mk.inj (HT.out.trans (if_neg he))
    have hne : (te != 0) = true := by simpa using he
    clear he
    go_wp2_with fail
    go_ret2
    exact ⟨rfl, HB1.out⟩
/-- A line without its end. -/
def trimN (l : ByteArray) : ByteArray := ⟨(Lib.trimSuffix l.data.toList [10]).toArray⟩
def perr (l : ByteArray) : Int := (parseF (trimN l)).e
def fof (l : ByteArray) : F3 := ((parseF (trimN l)).k, (parseF (trimN l)).l, (parseF (trimN l)).v)
theorem trimN_size (l : ByteArray) : (trimN l).size ≤ l.size := by
  unfold trimN
  show (Lib.trimSuffix l.data.toList [10]).toArray.size ≤ _
  rw [List.size_toArray]
  unfold Lib.trimSuffix
  have e : l.data.toList.length = l.size := by rw [Array.length_toList]; rfl
  split
  · rw [List.length_take]; omega
  · omega
theorem trimN_any (l : ByteArray) (hs : l.size ≤ 1000000) (w : World) : Calls Tryz.prog 87 #[.string l, .string ⟨#[10]⟩] w fun e w' => e = .returned (.string (trimN l)) ∧ w' = w := Tryz.strings_TrimSuffix l ⟨#[10]⟩ w (by omega)
theorem lines_fn (s : ByteArray) (w : World) : Calls Tryz.prog 85 #[.string s] w fun e w' => e = .returned (.func (.func 96) #[] #[.pointer (some ⟨w.heap.size, 0, none⟩)]) ∧ w' = w.alloc (.cells #[.string s] 9) := by
  go_enter Tryz.func85, Tryz.ntmps85
  go_wp2
  go_ret
  exact ⟨rfl, rfl⟩
theorem hindex : HIndex := fun s c w => Tryz.strings_IndexByte s c w
theorem results_cc (tmps : Array Value) (w : World) (g1 g2 : Nat) (v1 v2 : Value) (h1 : tmps.getD 2 undef = .pointer (some ⟨g1, 0, none⟩)) (h2 : tmps.getD 3 undef = .pointer (some ⟨g2, 0, none⟩)) (b1 : Blk w g1 85 #[v1]) (b2 : Blk w g2 30 #[v2]) :
    (results Tryz.f78 tmps).run Tryz.prog w = .ok (.tuple #[v1, v2]) w := by
  have c1 : w.cell? ⟨g1, 0, none⟩ = some v1 := b1.cell 0
  have c2 : w.cell? ⟨g2, 0, none⟩ = some v2 := b2.cell 0
  have h1' : tmps[2]?.getD undef = .pointer (some ⟨g1, 0, none⟩) := by simpa using h1
  have h2' : tmps[3]?.getD undef = .pointer (some ⟨g2, 0, none⟩) := by simpa using h2
  have hr : Tryz.f78.results = #[.cell 2 85, .cell 3 30] := rfl
  simp [results, hr, h1', h2', asAddr, go_sem, c1, c2]
def flds (ls : List ByteArray) : List F3 := ls.map fof
def parL (s : ByteArray) : List F3 × Int :=
  if 900 < s.size then ([], 1) else if (linesB s).any (fun x => perr x != 0) = true then ([], 1) else if (txtL (flds (linesB s))).2 ≠ 0 ∨ (txtL (flds (linesB s))).1 ≠ s then ([], 1) else (flds (linesB s), 0)
theorem parse_v (l : ByteArray) : fldV (parseF (trimN l)) = .tuple #[.agg #[.int .i64 (fof l).1, .int .i64 (fof l).2.1, .string (fof l).2.2], .int .i64 (perr l)] := rfl
end Go.Proofs.YtphijnkiiokieaaGreatDoor
/- card: Parse. -/
namespace Go.Proofs.YtphijnkiiokieaaGreatDoor
open Go.RowKit
open Go.Lib hiding intOf
open Go.Sort Go.Proofs
open Go.Shelf
attribute [local go_sem] Oper.semAt_some
set_option linter.unusedVariables false
set_option linter.unusedSimpArgs false
set_option maxRecDepth 100000
def mkD (D : Nat) : Deferred := { target := .collected D, args := #[] }
def Marks (w : World) (B : Nat) (Ds : List Nat) : Prop := Ds.Nodup ∧ ∀ D ∈ Ds, B ≤ D ∧ w.heap[D]? = some (.deferred (some []))
theorem leave_marks {P : Program} {fn : Func} {tmps : Array Value} {R : Ending → World → Prop} {B : Nat} {Good : World → Prop} (hput : ∀ W D, Good W → W.heap[D]? = some (.deferred (some [])) → B ≤ D → Good (W.putObj D (.deferred none))) (hend : ∀ W, Good W → LeavesInM Fence.wide 6 P fn tmps R [] .returning W) :
    ∀ (Ds : List Nat) (W : World), Marks W B Ds → Good W → LeavesInM Fence.wide 6 P fn tmps R (Ds.map mkD) .returning W
  | [], W, _, hG => hend W hG
  | D :: Ds, W, ⟨hn, hm⟩, hG => by
    rw [List.nodup_cons] at hn
    obtain ⟨h1, h2⟩ := hm D List.mem_cons_self
    refine ⟨by simp, .inl ⟨_, _, rfl, run_takeDeferred h2, ?_⟩⟩
    refine leave_marks hput hend Ds _ ⟨hn.2, fun D' hD' => ?_⟩ (hput W D hG h2 h1)
    obtain ⟨h3, h4⟩ := hm D' (List.mem_cons_of_mem _ hD')
    exact ⟨h3, (World.putObj_heap_other (fun e => hn.1 (by subst e; exact hD'))).trans h4⟩
theorem keeps_row {W W' : World} {base k n : Nat} {e : TypeId} {u : Value} {zs : List Value} (h : W.ownsRow base e k u n zs) (hg : W.grownBy W' u.ownBlock) : KeepsOthers W W' := KeepsOthers.of_grownBy hg (fun r o e ho => by
  rcases h.2 with ⟨rfl, _⟩ | ⟨b, cp, cur, rfl, _, hgb, _⟩
  · cases e
  · cases e
    rw [hgb] at ho
    cases ho
    rfl)
/-- What stands while lines are read: the two results' cells, the list's cell and its row. -/
structure Pi (w : World) (B : Nat) (pre : List ByteArray) (W : World) (V : Value) : Prop where
  lst : Blk W (B + 2) 85 #[V]
  row : Fr3 W (B + 4) V pre.length (flds pre)
  r1 : Blk W B 85 #[.slice none 0 0]
  r2 : Blk W (B + 1) 30 #[.int .i64 0]
  bel : Below B w W
  ok : pre.any (fun x => perr x != 0) = false
  siz : B + 4 ≤ W.heap.size
structure Px (w : World) (B : Nat) (pre : List ByteArray) (W : World) : Prop where
  r1 : Blk W B 85 #[.slice none 0 0]
  r2 : Blk W (B + 1) 30 #[.int .i64 1]
  bel : Below B w W
  bad : pre.any (fun x => perr x != 0) = true
theorem fr3_own {W W' : World} {base n : Nat} {V : Value} {L : List F3} {row : Option Nat} (h : Fr3 W base V n L) (hg : W.grownBy W' row) (hr : ∀ r, row = some r → ∃ o : Obj, W.heap[r]? = some o ∧ o.isCells = false) : Fr3 W' base V n L := by
  obtain ⟨h0, h3 | ⟨b, cap, cur, rfl, e2, e3, e4⟩⟩ := h
  · exact ⟨h0, .inl h3⟩
  · exact ⟨h0, .inr ⟨b, cap, cur, rfl, e2, blk_own (cs := cur) (t := 92) e3 hg hr, e4⟩⟩
theorem fr3_keep {W W' : World} {base n : Nat} {V : Value} {L : List F3} (h : Fr3 W base V n L) (hk : ∀ j, base ≤ j → j < W.heap.size → W'.heap[j]? = W.heap[j]?) : Fr3 W' base V n L := by
  obtain ⟨h0, h3 | ⟨b, cap, cur, rfl, e2, e3, e4⟩⟩ := h
  · exact ⟨h0, .inl h3⟩
  · exact ⟨h0, .inr ⟨b, cap, cur, rfl, e2, (hk b e2 (Array.getElem?_eq_some_iff.1 e3).1).trans e3, e4⟩⟩
theorem Pi.own {w : World} {B : Nat} {pre : List ByteArray} {W W' : World} {V : Value} {row : Option Nat} (h : Pi w B pre W V) (hg : W.grownBy W' row) (hr : ∀ r, row = some r → B + 4 ≤ r ∧ ∃ o : Obj, W.heap[r]? = some o ∧ o.isCells = false) : Pi w B pre W' V :=
  ⟨blk_own h.lst hg (fun r e => (hr r e).2), fr3_own h.row hg (fun r e => (hr r e).2), blk_own h.r1 hg (fun r e => (hr r e).2), blk_own h.r2 hg (fun r e => (hr r e).2), h.bel.grown hg (Nat.le_of_lt h.r1.lt) (fun k e => by have := (hr k e).1; omega), h.ok, Nat.le_trans h.siz hg.size⟩
theorem Px.own {w : World} {B : Nat} {pre : List ByteArray} {W W' : World} {row : Option Nat} (h : Px w B pre W) (hg : W.grownBy W' row) (hr : ∀ r, row = some r → B + 4 ≤ r ∧ ∃ o : Obj, W.heap[r]? = some o ∧ o.isCells = false) : Px w B pre W' :=
  ⟨blk_own h.r1 hg (fun r e => (hr r e).2), blk_own h.r2 hg (fun r e => (hr r e).2), h.bel.grown hg (Nat.le_of_lt h.r1.lt) (fun k e => by have := (hr k e).1; omega), h.bad⟩
theorem rc_blk {b g : Nat} {t : TypeId} {cs : Array Value} {A C : World} (h : Blk A g t cs) (k : Rc b A C) (hne : g ≠ b) : Blk C g t cs := (k.block g h.lt hne).trans h
theorem Pi.rc {w : World} {B : Nat} {pre : List ByteArray} {A C : World} {V : Value} (h : Pi w B pre A V) (k : Rc (B + 3) A C) : Pi w B pre C V :=
  ⟨rc_blk h.lst k (by omega), fr3_keep h.row (fun j h1 h2 => k.block j h2 (by omega)), rc_blk h.r1 k (by omega), rc_blk h.r2 k (by omega),
    ⟨k.os.trans h.bel.os, k.tape.trans h.bel.tape, k.output.trans h.bel.output, Nat.le_trans h.bel.size k.size, fun j hj => (k.block j (by have := h.r1.lt; omega) (by omega)).trans (h.bel.block j hj)⟩, h.ok, Nat.le_trans h.siz k.size⟩
theorem Px.rc {w : World} {B : Nat} {pre : List ByteArray} {A C : World} (h : Px w B pre A) (k : Rc (B + 3) A C) : Px w B pre C :=
  ⟨rc_blk h.r1 k (by omega), rc_blk h.r2 k (by omega),
    ⟨k.os.trans h.bel.os, k.tape.trans h.bel.tape, k.output.trans h.bel.output, Nat.le_trans h.bel.size k.size, fun j hj => (k.block j (by have := h.r1.lt; omega) (by omega)).trans (h.bel.block j hj)⟩, h.bad⟩
/-- Old blocks as they were. -/
def Kold (W W' : World) : Prop := Below W.heap.size W W'
theorem keeps_of_below {W W' : World} (B : Nat) (h : Below W.heap.size W W') : KeepsFrom B W W' := ⟨h.size, fun k o _ hk _ => (h.block k (Array.getElem?_eq_some_iff.1 hk).1).trans hk⟩
theorem fof_size (l : ByteArray) : (fof l).2.2.size ≤ l.size := by
  unfold fof
  have h1 := trimN_size l
  rcases parse_cases (trimN l) with ⟨k, j, v, _, _, h, hs⟩ | h
  · rw [h]; show v.size ≤ _; omega
  · rw [h]; show (⟨#[]⟩ : ByteArray).size ≤ _; exact Nat.zero_le _
theorem lines_mem_size : ∀ (n : Nat) (s : ByteArray), ∀ x ∈ linesN n s, x.size ≤ s.size
  | 0, s, x, hx => by cases hx
  | n + 1, s, x, hx => by
    unfold linesN at hx
    split at hx
    · cases hx
    · rcases List.mem_cons.1 hx with rfl | h
      · unfold lineOf
        split
        · simp only [ByteArray.size_extract]; omega
        · exact Nat.le_refl _
      · have h1 := lines_mem_size n _ x h
        have h2 : (lineOf s).2.size ≤ s.size := by
          unfold lineOf
          split
          · simp only [ByteArray.size_extract]; omega
          · exact Nat.zero_le _
        omega
theorem lines_len : ∀ (n : Nat) (s : ByteArray), (linesN n s).length ≤ n
  | 0, s => Nat.le_refl _
  | n + 1, s => by
    unfold linesN
    split
    · exact Nat.zero_le _
    · have := lines_len n (lineOf s).2
      rw [List.length_cons]; omega
theorem fr3_fv {W : World} {B n : Nat} {V : Value} {L : List F3} (h : Fr3 W B V n L) (hl : L.length = n) : ∃ A cap g, V = .slice A n cap ∧ Fv W A cap g 0 L := by
  by_cases hn : n = 0
  · have : L = [] := List.eq_nil_of_length_eq_zero (by omega)
    subst this
    obtain ⟨_, ⟨e, _⟩ | ⟨g, cap, cur, e, _⟩⟩ := h
    · exact ⟨none, 0, 0, by rw [hn]; exact e, fv_nil _ _ _ _⟩
    · exact ⟨_, cap, g, e, fv_nil _ _ _ _⟩
  · obtain ⟨g, cap, e, _, hg, hc, _, hH⟩ := holds_fr3 h hl (by omega)
    exact ⟨_, cap, g, e, holds_fv (rest := []) (by simpa using hH) hg (by omega)⟩
/-- What is left behind: the two results' cells and the row of the list. -/
structure Pg (w : World) (B : Nat) (W : World) (R : Value) (n : Nat) (L : List F3) (e : Int) : Prop where
  r1 : Blk W B 85 #[R]
  r2 : Blk W (B + 1) 30 #[.int .i64 e]
  row : Fr3 W (B + 4) R n L
  bel : Below B w W
theorem Pg.own {w : World} {B : Nat} {W W' : World} {R : Value} {n : Nat} {L : List F3} {e : Int} {row : Option Nat} (h : Pg w B W R n L e) (hg : W.grownBy W' row) (hr : ∀ r, row = some r → B + 4 ≤ r ∧ ∃ o : Obj, W.heap[r]? = some o ∧ o.isCells = false) : Pg w B W' R n L e :=
  ⟨blk_own h.r1 hg (fun r e => (hr r e).2), blk_own h.r2 hg (fun r e => (hr r e).2), fr3_own h.row hg (fun r e => (hr r e).2), h.bel.grown hg (Nat.le_of_lt h.r1.lt) (fun k e => by have := (hr k e).1; omega)⟩
theorem Pg.leave {w : World} {B : Nat} {W : World} {Rv : Value} {n : Nat} {L : List F3} {er : Int} {tmps : Array Value} {D : Nat} (h : Pg w B W Rv n L er) (hD : B + 4 ≤ D) (hK : W.heap[D]? = some (.deferred (some []))) (h1 : tmps.getD 2 undef = .pointer (some ⟨B, 0, none⟩)) (h2 : tmps.getD 3 undef = .pointer (some ⟨B + 1, 0, none⟩))
    {R : Ending → World → Prop} (hR : ∀ W, Pg w B W Rv n L er → R (.returned (.tuple #[Rv, .int .i64 er])) W) : LeavesInM Fence.wide 6 Tryz.prog Tryz.f78 tmps R [mkD D] .returning W :=
  leave_marks (B := B + 4) (Good := fun W => Pg w B W Rv n L er) (fun W D hG hK hBD => hG.own (grownBy_putObj' W D _) (fun r e => by cases e; exact ⟨hBD, _, hK, rfl⟩)) (fun W hG => ⟨_, results_cc tmps W B (B + 1) _ _ h1 h2 hG.r1 hG.r2, hR W hG⟩) [D] W ⟨by simp, fun D' hD' => by obtain rfl := List.mem_singleton.1 hD'; exact ⟨hD, hK⟩⟩ h
theorem start4 (w : World) (s : ByteArray) : ∃ W0, (((w.alloc (.cells #[.slice none 0 0] 85)).alloc (.cells #[.int .i64 0] 30)).alloc (.cells #[.slice none 0 0] 85)).alloc (.cells #[.string s] 9) = W0 ∧ Pi w w.heap.size [] W0 (.slice none 0 0) ∧ Blk W0 (w.heap.size + 3) 9 #[.string s] ∧ W0.heap.size = w.heap.size + 4 := by
  refine ⟨_, rfl, ⟨?_, ⟨rfl, .inl ⟨rfl, rfl⟩⟩, (((Blk.new w 85 _).alloc _).alloc _).alloc _, ?_, ?_, rfl, by simp⟩, ?_, ?_⟩
  · have := Blk.new ((w.alloc (.cells #[.slice none 0 0] 85)).alloc (.cells #[.int .i64 0] 30)) 85 #[.slice none 0 0]
    simp only [World.size_alloc] at this
    exact this.alloc _
  · have := Blk.new (w.alloc (.cells #[.slice none 0 0] 85)) 30 #[.int .i64 0]
    simp only [World.size_alloc] at this
    exact (this.alloc _).alloc _
  · exact ((((Below.refl _ w).alloc (Nat.le_refl _) _).alloc (by simp) _).alloc (by simp; omega) _).alloc (by simp; omega) _
  · have := Blk.new (((w.alloc (.cells #[.slice none 0 0] 85)).alloc (.cells #[.int .i64 0] 30)).alloc (.cells #[.slice none 0 0] 85)) 9 #[.string s]
    simp only [World.size_alloc] at this
    exact this
  · simp
theorem mem_of_prefix {pre l : List ByteArray} {x : ByteArray} (h : (pre ++ [x]) <+: l) : x ∈ l ∧ pre.length + 1 ≤ l.length := by
  obtain ⟨t, rfl⟩ := h
  exact ⟨by simp, by simp⟩
theorem any_of_prefix {pre l : List ByteArray} {p : ByteArray → Bool} (h : pre <+: l) (ha : pre.any p = true) : l.any p = true := by
  obtain ⟨t, rfl⟩ := h
  rw [List.any_append, ha]; rfl
theorem parL_bad {s : ByteArray} (h : (linesB s).any (fun x => perr x != 0) = true) : parL s = ([], 1) := by
  unfold parL
  split
  · rfl
  · first | rfl | rw [if_pos h]
theorem flds_snoc (pre : List ByteArray) (x : ByteArray) : flds (pre ++ [x]) = flds pre ++ [fof x] := by unfold flds; simp
set_option maxHeartbeats 8000000 in
theorem parse_any (s : ByteArray) (hs : s.size ≤ 1000000) (w : World) (hE : Env w) :
    Calls Tryz.prog 78 #[.string s] w fun e w' => Below w.heap.size w w' ∧ ∃ A' cap' g, e = .returned (.tuple #[.slice A' (parL s).1.length cap', .int .i64 (parL s).2]) ∧ Fv w' A' cap' g 0 (parL s).1 := by
  have HE := Lib.hid hE
  obtain ⟨W0, hW0, hi0, hB3, hs0⟩ := start4 w s
  obtain ⟨B, hB⟩ : ∃ B, w.heap.size = B := ⟨_, rfl⟩
  rw [hB] at hi0 hB3 hs0
  have HBW := Lib.hid hB
  have HI0 := Lib.hid hi0
  have HB3 := Lib.hid hB3
  have HS0 := Lib.hid hs0
  obtain ⟨pv, pe, hp⟩ : ∃ pv pe, parL s = (pv, pe) := ⟨_, _, rfl⟩
  have HP := Lib.hid hp
  rw [hp, hB]
  clear hE hp hi0 hB3 hs0
  show Calls Tryz.prog 78 #[.string s] w fun e w' => Below B w w' ∧ ∃ A' cap' g, e = .returned (.tuple #[.slice A' pv.length cap', .int .i64 pe]) ∧ Fv w' A' cap' g 0 pv
  refine calls_marks Tryz.func78 rfl ?_
  simp only [Tryz.ntmps78, List.size_toArray, List.length_cons, List.length_nil, Nat.reduceAdd, Nat.reduceSub, Array.replicate_succ, Array.replicate_zero, List.push_toArray, List.append_toArray, List.nil_append, List.cons_append]
  by_cases h9 : 900 < s.size
  · have h9I : (s.size : Int) > 900 := by omega
    have HR := Lib.hid (show (pv, pe) = (([], 1) : List F3 × Int) from by rw [← HP.out]; unfold parL; rw [if_pos h9])
    have HY1 := Lib.hid (show Blk ((w.alloc (.cells #[.slice none 0 0] 85)).alloc (.cells #[.int .i64 1] 30)) w.heap.size 85 #[.slice none 0 0] from (Blk.new w 85 _).alloc _)
    have HY2 := Lib.hid (show Blk ((w.alloc (.cells #[.slice none 0 0] 85)).alloc (.cells #[.int .i64 1] 30)) (w.heap.size + 1) 30 #[.int .i64 1] from by
      have := Blk.new (w.alloc (.cells #[.slice none 0 0] 85)) 30 #[.int .i64 1]
      simp only [World.size_alloc] at this
      exact this)
    clear h9 hW0 hB
    go_wp2
    obtain ⟨rfl, rfl⟩ := Prod.mk.inj HR.out
    exact ⟨_, results_cc _ _ _ _ _ _ rfl rfl HY1.out HY2.out, HBW.out ▸ ((Below.refl _ w).alloc (Nat.le_refl _) _).alloc (by simp) _, none, 0, 0, rfl, fv_nil _ _ _ _⟩
  · have h9I : ¬ (s.size : Int) > 900 := by omega
    have h9n : s.size ≤ 900 := by omega
    have HPL := Lib.hid (show parL s = if (linesB s).any (fun x => perr x != 0) = true then ([], 1) else if (txtL (flds (linesB s))).2 ≠ 0 ∨ (txtL (flds (linesB s))).1 ≠ s then ([], 1) else (flds (linesB s), 0) from by unfold parL; rw [if_neg h9])
    clear h9
    go_wp2_with (first
      | (go_at_call 85
         refine (lines_fn s _).mono ?_
         rintro _ wz ⟨rfl, hw0⟩)
      | fail)
    obtain rfl : W0 = wz := by rw [hw0, ← hW0]
    clear hw0 hW0
    simp only [HBW.out, Nat.add_assoc, Nat.reduceAdd]
    obtain ⟨i0, hi, hz0, hz1, hz2⟩ := info_parts info36
    refine (wpIn_wide (n := 6)).1 (wpIn_range_R (gf := 96) (lb := #[.pointer (some ⟨B + 3, 0, none⟩)]) rfl (enters_of Tryz.func96 (by kernel_rfl) rfl) (lines_seq hindex (B + 3) s hs W0 HB3.out) (fun _ => rfl) (fun h k => Eq.trans k h) (fun W l o o' hl h1 h2 => World.putObj_heap_other (by have := HS0.out; omega)) (fun A C k o hR hk hA ho => (hR.block k (Array.getElem?_eq_some_iff.1 hA).1 (by have := HS0.out; omega)).trans hA)
      (fun pre W => ∃ V, Pi w B pre W V) (fun c pre W => c = .ret ∧ Px w B pre W)
      (fun pre A C row ⟨V, h⟩ hg hr => ⟨V, h.own hg (fun r e => by have := hr r e; rw [HS0.out] at this; exact this)⟩)
      (fun c pre A C row ⟨h1, h⟩ hg hr => ⟨h1, h.own hg (fun r e => by have := hr r e; rw [HS0.out] at this; exact this)⟩)
      (fun pre A C ⟨V, h⟩ hR => ⟨V, h.rc hR⟩) (fun c pre A C ⟨h1, h⟩ hR => ⟨h1, h.rc hR⟩) ⟨_, HI0.out⟩ ?a1 ?assign ?body ?done ?stop)
    case assign =>
      intro l x W K hK
      simp only [enS]
      gi_wp2
      exact hK
    case body =>
      rintro l pre x W hsp ⟨V, hpi⟩
      obtain ⟨hxm, hpl⟩ := mem_of_prefix hsp
      have hxs : x.size ≤ 900 := by have := lines_mem_size _ _ x hxm; omega
      have hpn : pre.length ≤ 900 := by have := lines_len s.size s; unfold linesB at hpl; omega
      have HPI := Lib.hid hpi
      have hEW : Env W := HE.out.on (HBW.out ▸ hpi.bel)
      have HT := Lib.hid (fun w => trimN_any x (by omega) w)
      have HFP := Lib.hid (fparse_any (trimN x) (by have := trimN_size x; omega) W hEW.t hEW.m hEW.d)
      rw [parse_v] at HFP
      obtain ⟨⟨d1, d2, d3⟩, hd⟩ : ∃ f, fof x = f := ⟨_, rfl⟩
      obtain ⟨de, hde⟩ : ∃ e, perr x = e := ⟨_, rfl⟩
      obtain ⟨tx, htx⟩ : ∃ t, trimN x = t := ⟨_, rfl⟩
      rw [hd, hde, htx] at HFP
      rw [htx] at HT
      have HD := Lib.hid hd
      have HDE := Lib.hid hde
      simp only at HFP
      clear hsp hxm hpl hpi hEW hd hde htx
      gi_wp2_with fail
      refine ⟨trivial, (CallsIn.inRound _ (callsIn_wide.2 (HT.out _))).mono ?_⟩
      rintro _ wz ⟨rfl, hw0⟩
      replace hw0 := hw0.symm
      subst hw0
      gi_wp2_with fail
      refine ⟨trivial, (CallsIn.inRound _ (callsIn_wide.2 HFP.out)).mono ?_⟩
      rintro _ W1 ⟨rfl, hb⟩
      obtain ⟨m9, hm9⟩ : ∃ n, W1.heap.size = n := ⟨_, rfl⟩
      have hWs : B + 3 ≤ W.heap.size := by have := HPI.out.lst.lt; omega
      obtain ⟨W4, hW4⟩ : ∃ W4, W1.alloc (.cells #[.int .i64 0, .int .i64 0, .string { data := #[] }] 92) = W4 := ⟨_, rfl⟩
      have HC4 := Lib.hid (show Below W1.heap.size W1 W4 from hW4 ▸ (Below.refl _ W1).alloc (Nat.le_refl _) _)
      have HY4 := Lib.hid (show Blk W4 m9 92 #[.int .i64 0, .int .i64 0, .string .empty] from hm9 ▸ hW4 ▸ Blk.new W1 92 _)
      have y0 := HY4.out.cell 0
      have y1 := HY4.out.cell 1
      have y2 := HY4.out.cell 2
      have g0 := HY4.out.frozen 0
      have g1 := HY4.out.frozen 1
      have g2 := HY4.out.frozen 2
      obtain ⟨w5, hw5⟩ : ∃ w5, ((W4.setCell ⟨m9, 0, none⟩ (.int .i64 d1)).setCell ⟨m9, 1, none⟩ (.int .i64 d2)).setCell ⟨m9, 2, none⟩ (.string d3) = w5 := ⟨_, rfl⟩
      have HB5 := Lib.hid (show Blk w5 m9 92 #[.int .i64 d1, .int .i64 d2, .string d3] from hw5 ▸ (((HY4.out.set_ 0 _).set_ 1 _).set_ 2 _))
      have HC5 := Lib.hid (show Below m9 W1 w5 from hw5 ▸ (((((HC4.out.mono (Nat.le_of_eq hm9.symm)).setCell (p := ⟨m9, 0, none⟩) (Nat.le_refl _) _).setCell (p := ⟨m9, 1, none⟩) (Nat.le_refl _) _).setCell (p := ⟨m9, 2, none⟩) (Nat.le_refl _) _)))
      have HS5 := Lib.hid (show W.heap.size ≤ m9 from by have := hb.size; omega)
      have HF5 := Lib.hid (show Below W.heap.size W w5 from hb.trans (HC5.out.mono HS5.out))
      have HL5 := Lib.hid (HPI.out.lst.below HF5.out HPI.out.lst.lt)
      have HA5 := Lib.hid (HPI.out.r1.below HF5.out HPI.out.r1.lt)
      have HZ5 := Lib.hid (HPI.out.r2.below HF5.out HPI.out.r2.lt)
      have HR5 := Lib.hid (fr3_keep HPI.out.row (fun j _ hj => HF5.out.block j hj))
      have HBL5 := Lib.hid (HPI.out.bel.trans (HF5.out.mono (by omega)))
      have HSA := Lib.hid (show B + 4 ≤ w5.heap.size from by have h1 := HF5.out.size; have h2 := HB5.out.lt; have h3 := HS5.out; omega)
      clear hb
      by_cases hde : de = 0
      · have hdb : (de != 0) = false := by simpa using hde
        obtain ⟨W6, hW6⟩ : ∃ W6, w5.alloc (.cells #[.int .i64 d1, .int .i64 d2, .string d3] 92) = W6 := ⟨_, rfl⟩
        have HB6 := Lib.hid (show Blk W6 w5.heap.size 92 #[.int .i64 d1, .int .i64 d2, .string d3] from hW6 ▸ Blk.new w5 92 _)
        have HR6 := Lib.hid (show Fr3 W6 (B + 4) V pre.length (flds pre) from hW6 ▸ World.ownsRow.alloc HR5.out _)
        have HF6 := Lib.hid (show Below w5.heap.size w5 W6 from hW6 ▸ (Below.refl _ w5).alloc (Nat.le_refl _) _)
        have HL6 := Lib.hid (HL5.out.below HF6.out HL5.out.lt)
        have c4 : w5.cell? ⟨B + 2, 0, none⟩ = some V := HL5.out.cell 0
        have z0 : w5.cell? ⟨m9, 0, none⟩ = some (.int .i64 d1) := HB5.out.cell 0
        have z1 : w5.cell? ⟨m9, 1, none⟩ = some (.int .i64 d2) := HB5.out.cell 1
        have z2 : w5.cell? ⟨m9, 2, none⟩ = some (.string d3) := HB5.out.cell 2
        gi_wp2_with (first
          | (gi_at_builtin
             (try rw [hw5])
             (try rw [hW6])
             refine wpListIn_append_own _ rfl _ _ 85 rfl (B + 4) 92 i0 (.agg #[.int .i64 0, .int .i64 0, .string ⟨#[]⟩]) 3 32 Tryz.underlying85 hi hz0 hz1 hz2 rfl (by decide) V pre.length (encL (flds pre)) rfl HR6.out ⟨w5.heap.size, 0, none⟩ 1 1 (encF (d1, d2, d3)) rfl rfl (World.news_of_block (cs := #[.int .i64 d1, .int .i64 d2, .string d3]) (t := 92) (fr := (0, 0)) HB6.out) (by intro y hy; unfold encF at hy; simp at hy; rcases hy with rfl | rfl | rfl <;> rfl) (by unfold maxLen; omega) (by omega) (by have := HF6.out.size; have := HS0.out; have := HSA.out; omega) ?_
             intro V' w7 hown hgr _
             obtain ⟨g', cap', rfl⟩ := ownsRow_succ hown
             have HO7 := Lib.hid hown
             have HG7 := Lib.hid hgr
             have HL7 := Lib.hid (HL6.out.grown hgr (fun e => by have := (HR6.out.lt _ e.symm).1; omega))
             have c7 : w7.cell? ⟨B + 2, 0, none⟩ = some V := HL7.out.cell 0
             have f7 : w7.frozen? ⟨B + 2, 0, none⟩ = false := HL7.out.frozen 0
             clear hown hgr)
          | fail)
        have hB6 : Below B w W6 := hW6 ▸ HBL5.out.alloc (by have := HSA.out; omega) _
        have hB7 : Below B w w7 := hB6.grown HG7.out (by have := hB6.size; have := HF6.out.size; have := HSA.out; omega) (fun k e => by have := (HR6.out.lt k e).1; omega)
        have hKeep : KeepsOthers w5 w7 := (hW6 ▸ KeepsOthers.alloc w5 _ : KeepsOthers w5 W6).trans (keeps_row HR6.out HG7.out)
        refine ⟨(keeps_of_below _ HF5.out).trans ((hKeep.trans (KeepsOthers.setCell _ ⟨B + 2, 0, none⟩ _)).from _), ?_, _, HL7.out.set_ 0 _, ?_, ?_, ?_, ?_, ?_, ?_⟩
        · have h1 := HPI.out.siz
          refine Eq.trans (Below.heap_setCell w7 ⟨B + 2, 0, none⟩ _ (B + 3) (by show B + 3 ≠ B + 2; omega)) (Eq.trans (HG7.out.block (B + 3) (by have := HF6.out.size; have := HSA.out; omega) (fun e => by have := (HR6.out.lt _ e.symm).1; omega)) (Eq.trans (HF6.out.block (B + 3) (by have := HSA.out; omega)) (HF5.out.block (B + 3) (by omega))))
        · rw [List.length_append, flds_snoc, HD.out]
          have := HO7.out
          have hl : Fr3 w7 (B + 4) (Value.slice (some ⟨g', 0, none⟩) (pre.length + 1) cap') (pre.length + 1) (flds pre ++ [(d1, d2, d3)]) := by unfold Fr3; rw [encL_snoc]; exact this
          exact fr3_keep hl (fun j h1 h2 => Below.heap_setCell w7 ⟨B + 2, 0, none⟩ _ j (by show j ≠ B + 2; omega))
        · exact ((HA5.out.below HF6.out HA5.out.lt).grown HG7.out (fun e => by have := (HR6.out.lt _ e.symm).1; omega)).far (p := ⟨B + 2, 0, none⟩) (by show B ≠ B + 2; omega) _
        · exact ((HZ5.out.below HF6.out HZ5.out.lt).grown HG7.out (fun e => by have := (HR6.out.lt _ e.symm).1; omega)).far (p := ⟨B + 2, 0, none⟩) (by show B + 1 ≠ B + 2; omega) _
        · exact hB7.setCell (p := ⟨B + 2, 0, none⟩) (by show B ≤ B + 2; omega) _
        · rw [List.any_append, HPI.out.ok, List.any_cons, HDE.out, hde]; rfl
        · rw [show (w7.setCell ⟨B + 2, 0, none⟩ (Value.slice (some ⟨g', 0, none⟩) (pre.length + 1) cap')).heap.size = w7.heap.size from by simp [World.setCell]]
          have := HG7.out.size; have := HF6.out.size; have := HSA.out; omega
      · have hdb : (de != 0) = true := by simpa using hde
        have e1 : w5.cell? ⟨B, 0, none⟩ = some (.slice none 0 0) := HA5.out.cell 0
        have e2 : w5.frozen? ⟨B, 0, none⟩ = false := HA5.out.frozen 0
        obtain ⟨w6, hw6⟩ : ∃ w6, w5.setCell ⟨B, 0, none⟩ (.slice none 0 0) = w6 := ⟨_, rfl⟩
        have HA6 := Lib.hid (show Blk w6 B 85 #[.slice none 0 0] from hw6 ▸ HA5.out.set_ 0 _)
        have HZ6 := Lib.hid (show Blk w6 (B + 1) 30 #[.int .i64 0] from hw6 ▸ HZ5.out.far (p := ⟨B, 0, none⟩) (by show B + 1 ≠ B; omega) _)
        have e3 : w6.cell? ⟨B + 1, 0, none⟩ = some (.int .i64 0) := HZ6.out.cell 0
        have e4 : w6.frozen? ⟨B + 1, 0, none⟩ = false := HZ6.out.frozen 0
        gi_wp2
        refine ⟨(keeps_of_below _ HF5.out).trans (hw6 ▸ ((KeepsOthers.setCell w5 ⟨B, 0, none⟩ (.slice none 0 0)).trans (KeepsOthers.setCell _ ⟨B + 1, 0, none⟩ (.int .i64 1))).from _), rfl, HA6.out.far (p := ⟨B + 1, 0, none⟩) (by show B ≠ B + 1; omega) _, HZ6.out.set_ 0 _, ?_, ?_⟩
        · exact ((hw6 ▸ HBL5.out.setCell (p := ⟨B, 0, none⟩) (Nat.le_refl _) _ : Below B w w6)).setCell (p := ⟨B + 1, 0, none⟩) (by show B ≤ B + 1; omega) _
        · rw [List.any_append, List.any_cons, HDE.out, hdb]; simp
    case done =>
      rintro D xs W hD rfl ⟨V, hpi⟩ hKD
      obtain ⟨L, hL⟩ : ∃ L, flds (linesB s) = L := ⟨_, rfl⟩
      obtain ⟨n, hn⟩ : ∃ n, (linesB s).length = n := ⟨_, rfl⟩
      have hLn : L.length = n := by rw [← hL, ← hn]; unfold flds; rw [List.length_map]
      have hrow := hpi.row
      rw [hL, hn] at hrow
      obtain ⟨A, cap, g, rfl, hFv⟩ := fr3_fv hrow hLn
      have hn9 : n ≤ 900 := by rw [← hn]; have := lines_len s.size s; unfold linesB; omega
      have hvl : ∀ f ∈ L, f.2.2.size ≤ 1000000 := fun f hf => by
        rw [← hL] at hf
        obtain ⟨x, hx, rfl⟩ := List.mem_map.1 hf
        have h1 := fof_size x
        have h2 := lines_mem_size _ _ x hx
        omega
      have HT := Lib.hid (text_any hFv (by omega) hvl (HE.out.on (HBW.out ▸ hpi.bel)))
      have HPI := Lib.hid hpi
      have HROW := Lib.hid hrow
      have HKD := Lib.hid hKD
      have hPN : parL s = if (txtL L).2 ≠ 0 ∨ (txtL L).1 ≠ s then ([], 1) else (L, 0) := by rw [HPL.out, if_neg (by rw [hpi.ok]; simp), hL]
      obtain ⟨tv, te, htv⟩ : ∃ tv te, txtL L = (tv, te) := ⟨_, _, rfl⟩
      rw [htv] at HT hPN
      rw [hLn] at HT
      rw [HP.out] at hPN
      have HPN := Lib.hid hPN
      have HLN := Lib.hid hLn
      have c4 : W.cell? ⟨B + 2, 0, none⟩ = some (.slice A n cap) := hpi.lst.cell 0
      clear hL hn hLn hFv hvl hpi hrow hKD hPN htv HPL
      go_wp2_with fail
      refine HT.out.mono ?_
      rintro _ W1 ⟨rfl, hb⟩
      have HB1 := Lib.hid hb
      have hL1 := HPI.out.lst.below hb HPI.out.lst.lt
      have hA1 := HPI.out.r1.below hb HPI.out.r1.lt
      have hZ1 := HPI.out.r2.below hb HPI.out.r2.lt
      have hBB : Below B w W1 := HPI.out.bel.trans (hb.mono (by have := HPI.out.siz; omega))
      have hR1 := fr3_keep HROW.out (fun j _ hj => hb.block j hj)
      have hK1 : W1.heap[D]? = some (.deferred (some [])) := (hb.block D (Array.getElem?_eq_some_iff.1 HKD.out).1).trans HKD.out
      have HDD := Lib.hid (show B + 4 ≤ D from by have := HS0.out; omega)
      have fin : ∀ (R : Value) (m : Nat) (M : List F3) (er : Int), Fr3 W1 (B + 4) R m M → ((W1.setCell ⟨B, 0, none⟩ R).setCell ⟨B + 1, 0, none⟩ (.int .i64 er)).heap[D]? = some (.deferred (some [])) ∧ Pg w B ((W1.setCell ⟨B, 0, none⟩ R).setCell ⟨B + 1, 0, none⟩ (.int .i64 er)) R m M er := fun R m M er hr => by
        have hD4 := HDD.out
        refine ⟨Eq.trans (Below.heap_setCell _ ⟨B + 1, 0, none⟩ _ D (by show D ≠ B + 1; omega)) (Eq.trans (Below.heap_setCell W1 ⟨B, 0, none⟩ _ D (by show D ≠ B; omega)) hK1), ?_, ?_, ?_, ?_⟩
        · exact (hA1.set_ 0 R).far (p := ⟨B + 1, 0, none⟩) (by show B ≠ B + 1; omega) _
        · exact (hZ1.far (p := ⟨B, 0, none⟩) (by show B + 1 ≠ B; omega) _).set_ 0 _
        · exact fr3_keep hr (fun j h1 h2 => Eq.trans (Below.heap_setCell _ ⟨B + 1, 0, none⟩ _ j (by show j ≠ B + 1; omega)) (Below.heap_setCell W1 ⟨B, 0, none⟩ _ j (by show j ≠ B; omega)))
        · exact (hBB.setCell (p := ⟨B, 0, none⟩) (Nat.le_refl _) _).setCell (p := ⟨B + 1, 0, none⟩) (by show B ≤ B + 1; omega) _
      have HFIN := Lib.hid fin
      have HR1 := Lib.hid hR1
      have e1 : W1.cell? ⟨B, 0, none⟩ = some (.slice none 0 0) := hA1.cell 0
      have e2 : W1.frozen? ⟨B, 0, none⟩ = false := hA1.frozen 0
      have c5 : W1.cell? ⟨B + 2, 0, none⟩ = some (.slice A n cap) := hL1.cell 0
      have hst : ∀ R, (W1.setCell ⟨B, 0, none⟩ R).cell? ⟨B + 1, 0, none⟩ = some (.int .i64 0) ∧ (W1.setCell ⟨B, 0, none⟩ R).frozen? ⟨B + 1, 0, none⟩ = false := fun R => by
        have := hZ1.far (p := ⟨B, 0, none⟩) (by show B + 1 ≠ B; omega) R
        exact ⟨this.cell 0, this.frozen 0⟩
      clear hb hL1 hA1 hZ1 hBB hR1 hK1 fin c4
      by_cases hte : te = 0
      · have b1 : (te != 0) = false := by simpa using hte
        by_cases htv : tv = s
        · have b2 : (tv.toList == s.toList) = true := by rw [htv]; exact beq_self_eq_true _
          have HR := Lib.hid (show (pv, pe) = ((L, 0) : List F3 × Int) from by rw [HPN.out, if_neg (by simp only [hte, htv]; simp)])
          obtain ⟨w6, hw6⟩ : ∃ w6, W1.setCell ⟨B, 0, none⟩ (.slice A n cap) = w6 := ⟨_, rfl⟩
          obtain ⟨e3, e4⟩ := hst (.slice A n cap)
          rw [hw6] at e3 e4
          clear hte htv hst
          go_wp2_with fail
          obtain ⟨f1, f2⟩ := HFIN.out _ _ _ 0 HR1.out
          rw [hw6] at f1 f2
          obtain ⟨rfl, rfl⟩ := Prod.mk.inj HR.out
          exact f2.leave HDD.out f1 rfl rfl (fun W h => by
            obtain ⟨A', cap', g', e, hf⟩ := fr3_fv h.row HLN.out
            exact ⟨h.bel, A', cap', g', by rw [HLN.out]; rw [e], hf⟩)
        · have b2 : (tv.toList == s.toList) = false := Day.ne_str htv
          have HR := Lib.hid (show (pv, pe) = (([], 1) : List F3 × Int) from by rw [HPN.out, if_pos (.inr htv)])
          obtain ⟨w6, hw6⟩ : ∃ w6, W1.setCell ⟨B, 0, none⟩ (.slice none 0 0) = w6 := ⟨_, rfl⟩
          obtain ⟨e3, e4⟩ := hst (.slice none 0 0)
          rw [hw6] at e3 e4
          clear hte htv hst
          go_wp2_with fail
          obtain ⟨f1, f2⟩ := HFIN.out (.slice none 0 0) 0 [] 1 ⟨rfl, .inl ⟨rfl, rfl⟩⟩
          rw [hw6] at f1 f2
          obtain ⟨rfl, rfl⟩ := Prod.mk.inj HR.out
          exact f2.leave HDD.out f1 rfl rfl (fun W h => ⟨h.bel, none, 0, 0, rfl, fv_nil _ _ _ _⟩)
      · have b1 : (te != 0) = true := by simpa using hte
        have HR := Lib.hid (show (pv, pe) = (([], 1) : List F3 × Int) from by rw [HPN.out, if_pos (.inl hte)])
        obtain ⟨w6, hw6⟩ : ∃ w6, W1.setCell ⟨B, 0, none⟩ (.slice none 0 0) = w6 := ⟨_, rfl⟩
        obtain ⟨e3, e4⟩ := hst (.slice none 0 0)
        rw [hw6] at e3 e4
        clear hte hst
        go_wp2_with fail
        obtain ⟨f1, f2⟩ := HFIN.out (.slice none 0 0) 0 [] 1 ⟨rfl, .inl ⟨rfl, rfl⟩⟩
        rw [hw6] at f1 f2
        obtain ⟨rfl, rfl⟩ := Prod.mk.inj HR.out
        exact f2.leave HDD.out f1 rfl rfl (fun W h => ⟨h.bel, none, 0, 0, rfl, fv_nil _ _ _ _⟩)
    case stop =>
      rintro D c pre W hD hSp ⟨rfl, hpx⟩ hKD
      refine wpIn_ret ?_
      have HR := Lib.hid (show (pv, pe) = (([], 1) : List F3 × Int) from by rw [← HP.out]; exact parL_bad (any_of_prefix hSp hpx.bad))
      go_simp
      obtain ⟨rfl, rfl⟩ := Prod.mk.inj HR.out
      exact Pg.leave (Rv := .slice none 0 0) (n := 0) (L := []) (er := 1) ⟨hpx.r1, hpx.r2, ⟨rfl, .inl ⟨rfl, rfl⟩⟩, hpx.bel⟩ (by have := HS0.out; omega) hKD rfl rfl (fun W h => ⟨h.bel, none, 0, 0, rfl, fv_nil _ _ _ _⟩)
end Go.Proofs.YtphijnkiiokieaaGreatDoor
namespace Go.Proofs.YtphijnkiiokieaaGreatDoor
open Go.RowKit
open Go.Lib hiding intOf
open Go.Sort Go.Proofs
set_option linter.unusedVariables false
set_option linter.unusedSimpArgs false
set_option maxRecDepth 100000
def isC (s : ByteArray) : Bool := (parL s).2 == 0
def titF : List F3 → ByteArray
  | [] => ⟨#[]⟩
  | f :: L => if f.1 = 1 then f.2.2 else titF L
theorem titF_drop {L : List F3} {q : Nat} {f : F3} (h : L[q]? = some f) : titF (L.drop q) = if f.1 = 1 then f.2.2 else titF (L.drop (q + 1)) := by
  have hl := (List.getElem?_eq_some_iff.1 h).1
  have he := (List.getElem?_eq_some_iff.1 h).2
  rw [List.drop_eq_getElem_cons hl, he]
  rfl
theorem parL_len (s : ByteArray) : (parL s).1.length ≤ 900 := by
  unfold parL
  split
  · exact Nat.zero_le _
  · split
    · exact Nat.zero_le _
    · split
      · exact Nat.zero_le _
      · show (flds (linesB s)).length ≤ 900
        unfold flds
        rw [List.length_map]
        have := lines_len s.size s
        unfold linesB
        omega
end Go.Proofs.YtphijnkiiokieaaGreatDoor
