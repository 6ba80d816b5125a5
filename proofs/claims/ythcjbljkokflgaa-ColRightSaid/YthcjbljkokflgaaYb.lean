/- Since of both, side by side. -/
import Derived.Test.YthcjbljkokflgaaYa
import Derived.Test.YthcjbljkokflgaaZbe
import Derived.Test.YthcjbljkokflgaaZbf
set_option linter.unnecessarySimpa false
/- What the reference's Since tells, and that both tell the same (maths). -/
namespace Go.Proofs.Ythcjbljkokflgaa
open Go.RowKit
open Go.Lib
set_option linter.unusedVariables false
set_option linter.unusedSimpArgs false
set_option maxRecDepth 100000
def rOut (L : LK) (T : Int) (acc : List It) (c : Chg) : List It := if c.1 ≤ T then acc else if acc.any (fun t => decide (t.u = c.2)) = true then acc else acc ++ [chgI L (c.2, c.1)]
theorem get_any {k : ByteArray} : ∀ (M : List (ByteArray × Int)), (getL k M).isSome = M.any fun p => decide (p.1 = k)
  | [] => rfl
  | p :: M => by
    rw [getL_cons, List.any_cons, ← get_any M]
    by_cases e : k = p.1
    · rw [if_pos e, decide_eq_true e.symm]; rfl
    · rw [if_neg e, decide_eq_false (fun h => e h.symm), Bool.false_or]
theorem chg_any (L : LK) (k : ByteArray) (M : List (ByteArray × Int)) : (chgL L M).any (fun t => decide (t.u = k)) = (getL k M).isSome := by
  rw [get_any]
  unfold chgL
  rw [List.any_map]
  congr 1
  funext p
  show decide ((chgI L p).u = k) = _
  rw [chgI_u]
theorem insL_perm {k : ByteArray} {v : Int} : ∀ {M : List (ByteArray × Int)}, (getL k M).isSome = false → (insL k v M).Perm (M ++ [(k, v)])
  | [], _ => List.Perm.refl _
  | p :: M, h => by
    rw [getL_cons] at h
    by_cases e : k = p.1
    · rw [if_pos e] at h; cases h
    · rw [if_neg e] at h
      unfold insL
      by_cases hk : klt k p.1 = true
      · rw [if_pos hk]; exact (List.perm_append_singleton (k, v) (p :: M)).symm
      · rw [if_neg hk, if_neg e]; exact (insL_perm h).cons p
theorem rout_on (L : LK) (T : Int) : ∀ (l : List Chg) (acc : List It) (M : List (ByteArray × Int)), (∀ c ∈ l, T < c.1) → acc.Perm (chgL L M) → (l.foldl (rOut L T) acc).Perm (chgL L (l.foldl accS M))
  | [], acc, M, _, hp => hp
  | c :: l, acc, M, h, hp => by
    have hc := h c List.mem_cons_self
    refine rout_on L T l _ _ (fun d hd => h d (List.mem_cons_of_mem _ hd)) ?_
    unfold rOut accS
    rw [if_neg (show ¬ c.1 ≤ T by omega), hp.any_eq, chg_any]
    by_cases e : (getL c.2 M).isSome = true
    · rw [if_pos e, if_pos e]; exact hp
    · rw [if_neg e, if_neg e]
      have h2 : (chgL L (insL c.2 c.1 M)).Perm (chgL L (M ++ [(c.2, c.1)])) := (insL_perm (by simpa using e)).map _
      rw [chgL_snoc] at h2
      exact (hp.append_right _).trans h2.symm
theorem rout_off (L : LK) (T : Int) : ∀ (l : List Chg) (acc : List It), (∀ c ∈ l, c.1 ≤ T) → l.foldl (rOut L T) acc = acc
  | [], acc, _ => rfl
  | c :: l, acc, h => by
    have e : rOut L T acc c = acc := by unfold rOut; rw [if_pos (h c List.mem_cons_self)]
    rw [List.foldl_cons, e, rout_off L T l acc (fun d hd => h d (List.mem_cons_of_mem _ hd))]
theorem desc_split (T : Int) : ∀ (l : List Chg), (l.Pairwise fun a b => b.1 ≤ a.1) → ∃ A B, l = A ++ B ∧ (∀ c ∈ A, T < c.1) ∧ (∀ c ∈ B, c.1 ≤ T) ∧ l.takeWhile (fun c => decide (T < c.1)) = A
  | [], _ => ⟨[], [], rfl, (fun c h => by cases h), (fun c h => by cases h), rfl⟩
  | c :: l, h => by
    obtain ⟨h1, h2⟩ := List.pairwise_cons.1 h
    by_cases e : T < c.1
    · obtain ⟨A, B, rfl, hA, hB, ht⟩ := desc_split T l h2
      refine ⟨c :: A, B, rfl, fun d hd => ?_, hB, ?_⟩
      · rcases List.mem_cons.1 hd with rfl | hd
        · exact e
        · exact hA d hd
      · exact (List.takeWhile_cons_of_pos (p := fun c : Chg => decide (T < c.1)) (decide_eq_true e)).trans (by rw [ht])
    · refine ⟨[], c :: l, rfl, (fun d h => by cases h), fun d hd => ?_, ?_⟩
      · rcases List.mem_cons.1 hd with rfl | hd
        · omega
        · have := h1 d hd; omega
      · exact List.takeWhile_cons_of_neg (p := fun c : Chg => decide (T < c.1)) (by simpa using e)
theorem rout_perm (L : LK) (T : Int) {log : List Chg} (h : log.Pairwise fun a b => a.1 ≤ b.1) : (log.reverse.foldl (rOut L T) []).Perm (chgL L (lastL T log.reverse)) := by
  obtain ⟨A, B, e, hA, hB, ht⟩ := desc_split T log.reverse (List.pairwise_reverse.2 h)
  unfold lastL accL
  rw [ht, e, List.foldl_append, rout_off L T B _ hB]
  exact rout_on L T A [] [] hA (List.Perm.refl _)
/-- What it has behind the changes from j on. -/
def rFrom (L : LK) (T : Int) (log : List Chg) (j : Nat) : List It := (log.drop j).reverse.foldl (rOut L T) []
theorem rFrom_step (L : LK) (T : Int) {log : List Chg} {j : Nat} {x : Chg} (h : log[j]? = some x) : rFrom L T log j = rOut L T (rFrom L T log (j + 1)) x := by
  obtain ⟨h1, h2⟩ := List.getElem?_eq_some_iff.1 h
  unfold rFrom
  rw [List.drop_eq_getElem_cons h1, h2, List.reverse_cons, List.foldl_append]
  rfl
theorem rFrom_len (L : LK) (T : Int) (log : List Chg) : ∀ j, j ≤ log.length → (rFrom L T log j).length ≤ log.length - j := fun j hj => by
  obtain ⟨m, hm⟩ : ∃ m, log.length - j = m := ⟨_, rfl⟩
  induction m generalizing j with
  | zero => unfold rFrom; rw [List.drop_eq_nil_of_le (by omega)]; simp
  | succ m ih =>
    have hx : log[j]? = some (log[j]'(by omega)) := List.getElem?_eq_getElem _
    rw [rFrom_step L T hx]
    have := ih (j + 1) (by omega) (by omega)
    unfold rOut
    split
    · omega
    split
    · omega
    · rw [List.length_append]; simp; omega
theorem bef_eq {x y : It} (h1 : bef y x = false) (h2 : bef x y = false) : x.v = y.v ∧ x.u = y.u := by
  rw [bef_no] at h1 h2
  have e : x.v = y.v := by rcases h1 with h1 | h1 <;> rcases h2 with h2 | h2 <;> omega
  refine ⟨e, ?_⟩
  have k1 : klt y.u x.u = false := by rcases h1 with h1 | h1; omega; exact h1.2
  have k2 : klt x.u y.u = false := by rcases h2 with h2 | h2; omega; exact h2.2
  by_cases h : x.u = y.u
  · exact h
  · rcases klt_total h with h | h
    · rw [k2] at h; cases h
    · rw [k1] at h; cases h
theorem ul_inj {l : List It} (h : l.Pairwise Ul) : ∀ a b, a ∈ l → b ∈ l → a.u = b.u → a = b := by
  induction l with
  | nil => intro a b ha; cases ha
  | cons x l ih =>
    obtain ⟨h1, h2⟩ := List.pairwise_cons.1 h
    intro a b ha hb e
    rcases List.mem_cons.1 ha with ea | ha' <;> rcases List.mem_cons.1 hb with eb | hb'
    · rw [ea, eb]
    · have := h1 b hb'; unfold Ul at this; rw [← ea, e, klt_irr] at this; cases this
    · have := h1 a ha'; unfold Ul at this; rw [← eb, e, klt_irr] at this; cases this
    · exact ih h2 a b ha' hb' e
/-- Sorted by both, it is the same. -/
theorem ris_same {xs ys zs : List It} (hu : xs.Pairwise Ul) (h1 : ys.Perm xs) (h2 : RiL ys) (h3 : zs.Perm xs) (h4 : RiL zs) : ys = zs := by
  refine List.Perm.eq_of_pairwise (le := fun x y => bef y x = false) (fun a b ha hb k1 k2 => ?_) h2 h4 (h1.trans h3.symm)
  exact ul_inj hu a b (h1.mem_iff.1 ha) (h3.mem_iff.1 hb) (bef_eq k1 k2).2
theorem sin_ul {k : Nat} {c : Cs} (hi : Inv k c) (T : Int) : (sin0 c T).Pairwise Ul := by
  unfold sin0
  split
  · exact ul_live hi.srt
  · exact ul_chg _ (lastL_srt _ _)
theorem ris_ril {ys : List It} (h : Ris It.v Ul ys) : RiL ys := by
  unfold Ris at h
  refine h.imp fun {x y} e => ?_
  rw [bef_no]
  rcases e with e | ⟨e, e2⟩
  · exact .inl e
  · exact .inr ⟨e, klt_asym e2⟩
/-- What the reference's Since tells, before it sorts. -/
def rsin0 (R : Rs) (T : Int) : List It := if T = 0 then itsK R.L else rFrom R.L T R.log 0
theorem rsin_perm {c : Cs} {R : Rs} (h : Sim c R) (T : Int) : (rsin0 R T).Perm (sin0 c T) := by
  unfold rsin0 sin0
  rw [h.L, ← h.log]
  split
  · exact List.Perm.refl _
  · have := rout_perm c.L T h.so
    unfold rFrom
    rwa [List.drop_zero]
theorem sin_same {k : Nat} {c : Cs} {R : Rs} (h : Sim c R) (hi : Inv k c) {T : Int} {ys zs : List It} (h1 : Sin c T ys) (h2 : zs.Perm (rsin0 R T)) (h3 : RiL zs) : ys = zs :=
  ris_same (sin_ul hi T) h1.1 (ris_ril h1.2) (h2.trans (rsin_perm h T)) h3
end Go.Proofs.Ythcjbljkokflgaa
/- The reference's Since. -/
namespace Go.Proofs.Ythcjbljkokflgaa
open Go.RowKit
open Go.Lib
set_option linter.unusedVariables false
set_option linter.unusedSimpArgs false
set_option maxRecDepth 100000
theorem chC_row {l : List Chg} {j : Nat} {x : Chg} (h : l[j]? = some x) : (chC l)[j * 2]? = some (.int .i64 x.1) ∧ (chC l)[j * 2 + 1]? = some (.string x.2) := ⟨chC_get l j x h 0 (by omega), chC_get l j x h 1 (by omega)⟩
theorem out_snoc (out : List It) (k : ByteArray) (q : Nat) (t : It) (h : out[q]? = some t) : (out.take (q + 1)).any (fun t => decide (t.u = k)) = ((out.take q).any (fun t => decide (t.u = k)) || (t.u.toList == k.toList)) := by
  rw [List.take_add_one, h, keq]; simp
theorem rOut_skip {L : LK} {T : Int} {acc : List It} {c : Chg} (h : c.1 ≤ T ∨ acc.any (fun t => decide (t.u = c.2)) = true) : rOut L T acc c = acc := by
  unfold rOut
  rcases h with h | h
  · rw [if_pos h]
  · rw [if_pos h, ite_self]
theorem rOut_add {L : LK} {T : Int} {acc : List It} {c : Chg} (h : ¬ c.1 ≤ T) (h2 : acc.any (fun t => decide (t.u = c.2)) = false) : rOut L T acc c = acc ++ [chgI L (c.2, c.1)] := by
  unfold rOut
  rw [if_neg h, h2]; rfl
set_option maxHeartbeats 8000000 in
theorem rsince_bad {w : World} {B g : Nat} {R : Rs} (h : Rc w B g R) {T : Int} (h0 : T ≠ 0) (h1 : T < R.horizon ∨ R.latest < T) :
    Calls Try.prog 29 #[.pointer (some ⟨g, 0, none⟩), .int .i64 T] w fun e w' => e = .returned (.tuple #[.slice none 0 0, .int .i64 8]) ∧ w' = w := by
  obtain ⟨VL, VG, hbx, -, -, -⟩ := h
  have c4 := hbx.cell 4
  have c5 := hbx.cell 5
  simp only [List.getElem?_toArray, List.getElem?_cons_zero, List.getElem?_cons_succ] at c4 c5
  have d : (T == 0) = false := by simpa using h0
  clear hbx
  by_cases h2 : T < R.horizon
  · go_enter Try.func29, Try.ntmps29
    go_wp2
    go_ret2
    exact ⟨rfl, rfl⟩
  · have h3 : R.latest < T := by omega
    go_enter Try.func29, Try.ntmps29
    go_wp2
    go_ret2
    exact ⟨rfl, rfl⟩
set_option maxHeartbeats 8000000 in
theorem rsince_live {w : World} {B g : Nat} {R : Rs} (h : Rc w B g R) (hn : R.L.length ≤ 20000) :
    Calls Try.prog 29 #[.pointer (some ⟨g, 0, none⟩), .int .i64 0] w fun e w' => ∃ U ys, ys.Perm (rsin0 R 0) ∧ RiL ys ∧ e = .returned (.tuple #[U, .int .i64 0]) ∧ w'.ownsRow w.heap.size 62 4 U ys.length (itsC ys) ∧ Below w.heap.size w w' := by
  have HLV := Lib.hid (rlive_any h (by omega))
  have HRI := Lib.hid (fun (W : World) (V : Value) (h : W.ownsRow w.heap.size 62 4 V R.L.length (itsC (itsK R.L))) => rise_any h (itsK_len _) (by omega))
  have HE := Lib.hid (show rsin0 R 0 = itsK R.L by unfold rsin0; rw [if_pos rfl])
  clear h
  go_enter Try.func29, Try.ntmps29
  go_wp2_with fail
  refine HLV.out.mono ?_
  rintro _ w1 ⟨U, rfl, h1, h2⟩
  have HO1 := Lib.hid h1
  have HB1 := Lib.hid h2
  clear h1 h2
  go_wp2_with fail
  refine (HRI.out _ U HO1.out).mono ?_
  rintro _ w2 ⟨rfl, ys, h1, h2, h3, h4⟩
  have HY := Lib.hid (show ys.Perm (rsin0 R 0) ∧ RiL ys ∧ w2.ownsRow w.heap.size 62 4 U ys.length (itsC ys) from ⟨by rw [HE.out]; exact h1, h2, by rw [h1.length_eq, itsK_len]; exact h3⟩)
  have HB2 := Lib.hid (HB1.out.trans h4)
  clear h1 h2 h3 h4
  go_wp2
  go_ret2
  exact ⟨U, ys, HY.out.1, HY.out.2.1, rfl, HY.out.2.2, HB2.out⟩
theorem rise_pack {w2 : World} {B n : Nat} {V : Value} {xs ys : List It} (h1 : ys.Perm xs) (h3 : w2.ownsRow B 62 4 V n (itsC ys)) (hn : n = xs.length) : w2.ownsRow B 62 4 V ys.length (itsC ys) := by rw [h1.length_eq, ← hn]; exact h3
def Zj (j : Nat) (z : Int) : Prop := z = (j : Int) - 1
/-- What is read of the log, wherever. -/
structure Lgr (w : World) (g : Nat) (A : Option Addr) (cap gl n : Nat) (lg : List Chg) : Prop where
  c3 : w.cell? ⟨g, 3, none⟩ = some (.slice A n cap)
  row : ∀ j x, lg[j]? = some x → w.cell? ⟨gl, j * 2, none⟩ = some (.int .i64 x.1) ∧ w.cell? ⟨gl, j * 2 + 1, none⟩ = some (.string x.2)
set_option maxHeartbeats 16000000 in
theorem rsince_chg {w : World} {B g : Nat} {R : Rs} (h : Rc w B g R) (hs : Srt R.L) (hn : R.L.length ≤ 20000) (hgn : R.log.length ≤ 20000) {T : Int} (h0 : T ≠ 0) (h1 : R.horizon ≤ T) (h2 : T ≤ R.latest) :
    Calls Try.prog 29 #[.pointer (some ⟨g, 0, none⟩), .int .i64 T] w fun e w' => ∃ U ys, ys.Perm (rsin0 R T) ∧ RiL ys ∧ e = .returned (.tuple #[U, .int .i64 0]) ∧ w'.ownsRow w.heap.size 62 4 U ys.length (itsC ys) ∧ Below w.heap.size w w' := by
  have HRG := Lib.hid (fun (W : World) (hb : Below w.heap.size w W) (u : ByteArray) (o : Option (Int × ByteArray)) (ho : getL u R.L = o) => rget_any (h.on hb) hs (by omega) u o ho)
  have HE := Lib.hid (show rsin0 R T = rFrom R.L T R.log 0 by unfold rsin0; rw [if_neg h0])
  have HFL := Lib.hid (rFrom_len R.L T R.log)
  have HFS := Lib.hid (fun j (x : Chg) (hx : R.log[j]? = some x) => rFrom_step R.L T hx)
  have HF0 := Lib.hid (show rFrom R.L T R.log R.log.length = [] by unfold rFrom; rw [List.drop_length]; rfl)
  obtain ⟨i0, hi, hz0, hz1, hz2⟩ := info_parts infoIt
  obtain ⟨L, lg, cd, lm, la, ho⟩ := R
  obtain ⟨VL, VG, hbx, hL, hG, -⟩ := h
  obtain ⟨A, cap, gl, rfl, hcap, hsk⟩ := sk_row hG
  simp only at hbx hcap hsk hgn h1 h2 HRG HE HFL HFS HF0
  rw [HE.out]
  have HLG := Lib.hid (fun (W : World) (hb : Below w.heap.size w W) => (⟨(hbx.below hb hbx.lt).cell 3, fun j x hx => ⟨((hsk.on hb) _ _ (chC_row hx).1).2.2, ((hsk.on hb) _ _ (chC_row hx).2).2.2⟩⟩ : Lgr W g A cap gl lg.length lg))
  have hA : 0 < lg.length → A = some ⟨gl, 0, none⟩ := fun hp => (hsk 0 _ (chC_row (List.getElem?_eq_getElem hp)).1).1
  obtain ⟨n, hnl⟩ : ∃ n, lg.length = n := ⟨_, rfl⟩
  have HNL := Lib.hid hnl
  rw [hnl] at hcap hgn HLG hA HF0 HFL
  have c3 := (HLG.out w (Below.refl _ _)).c3
  have c4 := hbx.cell 4
  have c5 := hbx.cell 5
  simp only [List.getElem?_toArray, List.getElem?_cons_zero, List.getElem?_cons_succ] at c4 c5
  have d : (T == 0) = false := by simpa using h0
  have d2 : ¬ T < ho := by omega
  have d3 : ¬ la < T := by omega
  have hnI : (n : Int) ≤ 20000 := by omega
  clear hbx hL hG hsk hnl hs
  go_enter Try.func29, Try.ntmps29
  go_wp2
  go_loopw [6, 7] (fun V i wr => ∃ (j : Nat) (z : Int), j ≤ n ∧ i = .int .i64 z ∧ Zj j z ∧ wr.ownsRow w.heap.size 62 4 V (rFrom L T lg j).length (itsC (rFrom L T lg j)) ∧ Below w.heap.size w wr) (fun _ i _ => (intOf i + 1).toNat)
  case atStart => exact ⟨n, _, Nat.le_refl _, rfl, rfl, by rw [HF0.out]; exact World.ownsRow_nil _ _ _ _, Below.refl _ _⟩
  case round =>
    obtain ⟨j, z, hj, rfl, hzj, hro, hb⟩ := hrel
    have hz : z = (j : Int) - 1 := hzj
    clear hzj
    have HB := Lib.hid hb
    by_cases hj0 : 0 < j
    · obtain ⟨m, rfl⟩ : ∃ m, j = m + 1 := ⟨j - 1, by omega⟩
      obtain rfl : z = (m : Int) := by omega
      have hmI : (m : Int) < (n : Int) := by omega
      have hmn : m < n := by omega
      have hm0 : (0 : Int) ≤ (m : Int) := by omega
      have hmc : m < cap := by omega
      obtain ⟨x, hx⟩ : ∃ x, lg[m]? = some x := ⟨lg[m]'(by rw [HNL.out]; omega), List.getElem?_eq_getElem _⟩
      have HST := Lib.hid (HFS.out m x hx)
      have HLX := Lib.hid (fun (W : World) (hb : Below w.heap.size w W) => (HLG.out W hb).row m x hx)
      obtain rfl := hA (by omega)
      obtain ⟨out, hout⟩ : ∃ o, rFrom L T lg (m + 1) = o := ⟨_, rfl⟩
      rw [hout] at hro HST
      have hol : out.length ≤ 20000 := by rw [← hout]; have := HFL.out (m + 1) (by omega); omega
      obtain ⟨xt, xu⟩ := x
      simp only at HLX HST
      have HRO := Lib.hid hro
      clear hx hout hro hz hj hj0 hb
      obtain ⟨e1, e2⟩ := HLX.out wr HB.out
      have e3 := (HLG.out wr HB.out).c3
      by_cases ht : xt ≤ T
      · have HSK := Lib.hid (show rFrom L T lg m = out from HST.out.trans (rOut_skip (.inl ht)))
        go_wp2
        go_roundw
        case rel => exact ⟨m, _, by omega, rfl, by unfold Zj; first | rfl | go_num, by rw [HSK.out]; exact HRO.out, HB.out⟩
        case measure => (simp [intOf] <;> omega)
      · obtain ⟨A1, cap1, b1, rfl, hi1, -⟩ := own_its2 HRO.out
        have HI := Lib.hid (hi1.addr)
        have hlc := hi1.le
        obtain ⟨len, hlen⟩ : ∃ k, out.length = k := ⟨_, rfl⟩
        have HLE := Lib.hid hlen
        rw [hlen] at HRO HI hlc hol ⊢
        have hlI : (len : Int) ≤ 20000 := by omega
        have htf : decide (xt ≤ T) = false := decide_eq_false ht
        clear hi1 hlen
        go_wp2
        go_loopw [8, 9] (fun s k wr2 => ∃ q : Nat, q ≤ len ∧ s = .bool ((out.take q).any fun t => decide (t.u = xu)) ∧ k = .int .i64 (q : Int) ∧ wr2.ownsRow w.heap.size 62 4 (.slice A1 len cap1) len (itsC out) ∧ Below w.heap.size w wr2) (fun _ k _ => len - (intOf k).toNat)
        case atStart => exact ⟨0, Nat.zero_le _, rfl, rfl, HRO.out, HB.out⟩
        case round =>
          obtain ⟨q, hq, rfl, rfl, hr2, hb2⟩ := hrel
          have HR2 := Lib.hid hr2
          have HB2 := Lib.hid hb2
          clear hr2 hb2
          obtain ⟨sb, hsb⟩ : ∃ x, ((out.take q).any fun t => decide (t.u = xu)) = x := ⟨_, rfl⟩
          have HSB := Lib.hid hsb
          rw [hsb]
          clear hsb
          by_cases hql : q < len
          · have hqI : (q : Int) < (len : Int) := by omega
            obtain ⟨t, ht'⟩ : ∃ t, out[q]? = some t := ⟨out[q]'(by rw [HLE.out]; exact hql), List.getElem?_eq_getElem _⟩
            have HSN := Lib.hid (out_snoc out xu q t ht')
            rw [HSB.out] at HSN
            obtain ⟨rfl, -⟩ := HI.out (by omega)
            obtain ⟨p0, -⟩ := row_item HR2.out ht'
            obtain ⟨f1, f2⟩ := HLX.out wr HB2.out
            have f3 := (HLG.out wr HB2.out).c3
            have hqc : q < cap1 := by omega
            clear ht' e1 e2 e3
            cases sb with
            | true =>
              go_wp2_with fail
              go_quiet (fail)
              go_wp2
              go_roundw
              case rel => exact ⟨q + 1, by omega, by rw [HSN.out]; rfl, by go_num, own_keep HR2.out (fun _ _ => rfl), below_drewN HB2.out _⟩
              case measure => (simp [intOf] <;> omega)
            | false =>
              go_wp2_with fail
              go_quiet (fail)
              go_wp2
              go_roundw
              case rel => exact ⟨q + 1, by omega, by rw [HSN.out]; first | rfl | simp, by go_num, own_keep HR2.out (fun _ _ => rfl), below_drewN HB2.out _⟩
              case measure => (simp [intOf] <;> omega)
          · obtain ⟨q, rfl⟩ : ∃ k, q = k := ⟨_, rfl⟩
            have HAN := Lib.hid (show (out.any fun t => decide (t.u = xu)) = sb by have := HSB.out; rwa [List.take_of_length_le (by have := HLE.out; omega)] at this)
            have hqn : ¬ (q : Int) < (len : Int) := by omega
            cases sb with
            | true =>
              have HSK := Lib.hid (show rFrom L T lg m = out from HST.out.trans (rOut_skip (.inr HAN.out)))
              go_wp2
              go_roundw
              case rel => exact ⟨m, _, by omega, rfl, by unfold Zj; first | rfl | go_num, by rw [HSK.out, HLE.out]; exact HR2.out, HB2.out⟩
              case measure => (simp [intOf] <;> omega)
            | false =>
              have HSK := Lib.hid (show rFrom L T lg m = out ++ [chgI L (xu, xt)] from HST.out.trans (rOut_add (by show ¬ xt ≤ T; omega) HAN.out))
              obtain ⟨o, hoo⟩ : ∃ o, getL xu L = o := ⟨_, rfl⟩
              have HGT := Lib.hid (HRG.out wr HB2.out xu o hoo)
              have HOO := Lib.hid hoo
              obtain ⟨f1, f2⟩ := HLX.out wr HB2.out
              have f3 := (HLG.out wr HB2.out).c3
              clear hoo e1 e2 e3
              cases o with
              | some y =>
                obtain ⟨yv, yt⟩ := y
                have HIT := Lib.hid (show chgI L (xu, xt) = ⟨xu, yv, false, yt⟩ by unfold chgI; simp only; rw [HOO.out])
                simp only [Option.getD_some, Option.isSome_some] at HGT
                go_wp2_with fail
                refine HGT.out.mono ?_
                rintro _ w5 ⟨rfl, nq, rfl⟩
                have HBN := Lib.hid (show Below w.heap.size w (wr.drewN nq) from below_drewN HB2.out nq)
                have HRN := Lib.hid (show (wr.drewN nq).ownsRow w.heap.size 62 4 (.slice A1 len cap1) len (itsC out) from own_keep HR2.out (fun _ _ => rfl))
                obtain ⟨wn, hwn⟩ : ∃ W, wr.drewN nq = W := ⟨_, rfl⟩
                rw [hwn] at HBN HRN
                rw [hwn]
                obtain ⟨e1, e2⟩ := HLX.out wn HBN.out
                have e3 := (HLG.out wn HBN.out).c3
                have HNB := Lib.hid (Blk.new wn 62 #[.string xu, .int .i64 yv, .bool false, .string yt])
                have HBA := Lib.hid (HBN.out.alloc HBN.out.size (.cells #[.string xu, .int .i64 yv, .bool false, .string yt] 62))
                clear f1 f2 f3 hwn
                go_wp2_with (first
                  | (at_builtin
                     refine wpList_append_own _ rfl (.tmp 91) (.tmp 103) 40 rfl w.heap.size 62 i0 _ 4 48 Try.underlying40 hi hz0 hz1 hz2 rfl (by decide) (.slice A1 len cap1) len _ rfl (HRN.out.alloc _) ⟨wn.heap.size, 0, none⟩ 1 1 [.string xu, .int .i64 yv, .bool false, .string yt] rfl rfl (World.news_of_block HNB.out) (by simp [Value.oneCell']) (by unfold maxLen; omega) (by omega) HBA.out.size ?_
                     intro v6 w6 hown hgr _
                     have HO6 := Lib.hid hown
                     have HB6 := Lib.hid (HBA.out.grown hgr HBA.out.size (fun k e => (HRN.out.lt k e).1))
                     clear hown hgr)
                  | fail)
                go_roundw
                case rel => exact ⟨m, _, by omega, rfl, by unfold Zj; first | rfl | go_num, by rw [HSK.out, HIT.out, List.length_append, HLE.out, itsC_append]; exact HO6.out, HB6.out⟩
                case measure => (simp [intOf] <;> omega)
              | none =>
                have HIT := Lib.hid (show chgI L (xu, xt) = ⟨xu, xt, true, .empty⟩ by unfold chgI; simp only; rw [HOO.out])
                simp only [Option.getD_none, Option.isSome_none] at HGT
                go_wp2_with fail
                refine HGT.out.mono ?_
                rintro _ w5 ⟨rfl, nq, rfl⟩
                go_wp2_with fail
                have HBN := Lib.hid (show Below w.heap.size w (wr.drewN nq) from below_drewN HB2.out nq)
                have HRN := Lib.hid (show (wr.drewN nq).ownsRow w.heap.size 62 4 (.slice A1 len cap1) len (itsC out) from own_keep HR2.out (fun _ _ => rfl))
                obtain ⟨wn, hwn⟩ : ∃ W, wr.drewN nq = W := ⟨_, rfl⟩
                rw [hwn] at HBN HRN
                rw [hwn]
                have HCC := Lib.hid (fun (W : World) (hb : Below w.heap.size w W) => (⟨(HLG.out W hb).c3, (HLX.out W hb).2, (HLX.out W hb).1⟩ : W.cell? ⟨g, 3, none⟩ = some (.slice (some ⟨gl, 0, none⟩) n cap) ∧ W.cell? ⟨gl, m * 2 + 1, none⟩ = some (.string xu) ∧ W.cell? ⟨gl, m * 2, none⟩ = some (.int .i64 xt)))
                have HBD := Lib.hid (show Below w.heap.size w wn.drew from HBN.out.drew)
                have HND := Lib.hid (show wn.drew.ownsRow w.heap.size 62 4 (.slice A1 len cap1) len (itsC out) from own_keep HRN.out (fun _ _ => rfl))
                have HNB := Lib.hid (Blk.new wn.drew 62 #[.string xu, .int .i64 xt, .bool true, .string .empty])
                have HBA := Lib.hid (HBD.out.alloc HBD.out.size (.cells #[.string xu, .int .i64 xt, .bool true, .string .empty] 62))
                clear f1 f2 f3 hwn
                refine wp_region_E [([], fun w' => w'.cell? ⟨g, 3, none⟩ = some (.slice (some ⟨gl, 0, none⟩) n cap)), ([17], fun w' => w'.cell? ⟨gl, m * 2 + 1, none⟩ = some (.string xu)), ([17], fun w' => w'.cell? ⟨gl, m * 2, none⟩ = some (.int .i64 xt))] (by kernel_rfl) ⟨fun _ => (HCC.out _ HBD.out).1, fun _ => (HCC.out _ HBD.out).2.1, fun _ => (HCC.out _ HBD.out).2.2, trivial⟩ (fun hHeld => ?_)
                refine wpAnyE_take (i := 0) (v := ?_) rfl (by kernel_rfl) (by kernel_rfl) (by kernel_rfl) (by kernel_rfl) (fun _ _ _ h => h) (Or.inl ⟨by rfl, ?_⟩) hHeld (fun hHeld => ?_)
                rotate_left
                · (intro w hSw; (try dsimp only at hSw); (try simp only [List.getElem_toArray, List.getElem_cons_succ, List.getElem_cons_zero]); go_simp; try with_reducible rfl)
                try simp only [List.getElem_toArray, List.getElem_cons_succ, List.getElem_cons_zero, Act.put, List.setIfInBounds_toArray, List.set_cons_zero, List.set_cons_succ]
                refine wpAnyE_take (i := 1) (v := ?_) rfl (by kernel_rfl) (by kernel_rfl) (by kernel_rfl) (by kernel_rfl) (fun _ _ _ h => h) (Or.inl ⟨by rfl, ?_⟩) hHeld (fun hHeld => ?_)
                rotate_left
                · (intro w hSw; (try dsimp only at hSw); (try simp only [List.getElem_toArray, List.getElem_cons_succ, List.getElem_cons_zero]); go_simp; try with_reducible rfl)
                try simp only [List.getElem_toArray, List.getElem_cons_succ, List.getElem_cons_zero, Act.put, List.setIfInBounds_toArray, List.set_cons_zero, List.set_cons_succ]
                refine wpAnyE_take (i := 2) (v := ?_) rfl (by kernel_rfl) (by kernel_rfl) (by kernel_rfl) (by kernel_rfl) (fun _ _ _ h => h) (Or.inl ⟨by rfl, ?_⟩) hHeld (fun hHeld => ?_)
                rotate_left
                · (intro w hSw; (try dsimp only at hSw); (try simp only [List.getElem_toArray, List.getElem_cons_succ, List.getElem_cons_zero]); go_simp; try with_reducible rfl)
                try simp only [List.getElem_toArray, List.getElem_cons_succ, List.getElem_cons_zero, Act.put, List.setIfInBounds_toArray, List.set_cons_zero, List.set_cons_succ]
                refine wpAnyE_take (i := 3) (v := ?_) rfl (by kernel_rfl) (by kernel_rfl) (by kernel_rfl) (by kernel_rfl) (fun _ _ _ h => h) (Or.inl ⟨by rfl, ?_⟩) hHeld (fun hHeld => ?_)
                rotate_left
                · (intro w hSw; (try dsimp only at hSw); (try simp only [List.getElem_toArray, List.getElem_cons_succ, List.getElem_cons_zero]); go_simp; try with_reducible rfl)
                try simp only [List.getElem_toArray, List.getElem_cons_succ, List.getElem_cons_zero, Act.put, List.setIfInBounds_toArray, List.set_cons_zero, List.set_cons_succ]
                refine wpAnyE_load (i := 4) _ _ (v := ?_) rfl (by kernel_rfl) List.mem_cons_self (by kernel_rfl) (by kernel_rfl) (by kernel_rfl) (by kernel_rfl) (fun _ _ _ h => h) (Or.inl ⟨by rfl, ?_⟩) hHeld (fun hHeld => ?_)
                rotate_left
                · (intro w hSw; (try dsimp only at hSw); (try simp only [List.getElem_toArray, List.getElem_cons_succ, List.getElem_cons_zero]); go_simp; try with_reducible rfl)
                try simp only [List.getElem_toArray, List.getElem_cons_succ, List.getElem_cons_zero, Act.put, List.setIfInBounds_toArray, List.set_cons_zero, List.set_cons_succ]
                refine wpAnyE_take (i := 5) (v := ?_) rfl (by kernel_rfl) (by kernel_rfl) (by kernel_rfl) (by kernel_rfl) (fun _ _ _ h => h) (Or.inl ⟨by rfl, ?_⟩) hHeld (fun hHeld => ?_)
                rotate_left
                · (intro w hSw; (try dsimp only at hSw); (try simp only [List.getElem_toArray, List.getElem_cons_succ, List.getElem_cons_zero]); go_simp; try with_reducible rfl)
                try simp only [List.getElem_toArray, List.getElem_cons_succ, List.getElem_cons_zero, Act.put, List.setIfInBounds_toArray, List.set_cons_zero, List.set_cons_succ]
                refine wpAnyE_take (i := 6) (v := ?_) rfl (by kernel_rfl) (by kernel_rfl) (by kernel_rfl) (by kernel_rfl) (fun _ _ _ h => h) (Or.inl ⟨by rfl, ?_⟩) hHeld (fun hHeld => ?_)
                rotate_left
                · (intro w hSw; (try dsimp only at hSw); (try simp only [List.getElem_toArray, List.getElem_cons_succ, List.getElem_cons_zero]); go_simp; try with_reducible rfl)
                try simp only [List.getElem_toArray, List.getElem_cons_succ, List.getElem_cons_zero, Act.put, List.setIfInBounds_toArray, List.set_cons_zero, List.set_cons_succ]
                refine wpAnyE_take (i := 7) (v := ?_) rfl (by kernel_rfl) (by kernel_rfl) (by kernel_rfl) (by kernel_rfl) (fun _ _ _ h => h) (Or.inl ⟨by rfl, ?_⟩) hHeld (fun hHeld => ?_)
                rotate_left
                · (intro w hSw; (try dsimp only at hSw); (try simp only [List.getElem_toArray, List.getElem_cons_succ, List.getElem_cons_zero]); go_simp; try with_reducible rfl)
                try simp only [List.getElem_toArray, List.getElem_cons_succ, List.getElem_cons_zero, Act.put, List.setIfInBounds_toArray, List.set_cons_zero, List.set_cons_succ]
                refine wpAnyE_load (i := 8) _ _ (v := ?_) rfl (by kernel_rfl) (List.mem_cons_of_mem _ List.mem_cons_self) (by kernel_rfl) (by kernel_rfl) (by kernel_rfl) (by kernel_rfl) (fun _ _ _ h => h) (Or.inl ⟨by rfl, ?_⟩) hHeld (fun hHeld => ?_)
                rotate_left
                · (intro w hSw; (try dsimp only at hSw); (try simp only [List.getElem_toArray, List.getElem_cons_succ, List.getElem_cons_zero]); go_simp; try with_reducible rfl)
                try simp only [List.getElem_toArray, List.getElem_cons_succ, List.getElem_cons_zero, Act.put, List.setIfInBounds_toArray, List.set_cons_zero, List.set_cons_succ]
                refine wpAnyE_take (i := 9) (v := ?_) rfl (by kernel_rfl) (by kernel_rfl) (by kernel_rfl) (by kernel_rfl) (fun _ _ _ h => h) (Or.inl ⟨by rfl, ?_⟩) hHeld (fun hHeld => ?_)
                rotate_left
                · (intro w hSw; (try dsimp only at hSw); (try simp only [List.getElem_toArray, List.getElem_cons_succ, List.getElem_cons_zero]); go_simp; try with_reducible rfl)
                try simp only [List.getElem_toArray, List.getElem_cons_succ, List.getElem_cons_zero, Act.put, List.setIfInBounds_toArray, List.set_cons_zero, List.set_cons_succ]
                refine wpAnyE_take (i := 10) (v := ?_) rfl (by kernel_rfl) (by kernel_rfl) (by kernel_rfl) (by kernel_rfl) (fun _ _ _ h => h) (Or.inl ⟨by rfl, ?_⟩) hHeld (fun hHeld => ?_)
                rotate_left
                · (intro w hSw; (try dsimp only at hSw); (try simp only [List.getElem_toArray, List.getElem_cons_succ, List.getElem_cons_zero]); go_simp; try with_reducible rfl)
                try simp only [List.getElem_toArray, List.getElem_cons_succ, List.getElem_cons_zero, Act.put, List.setIfInBounds_toArray, List.set_cons_zero, List.set_cons_succ]
                refine wpAnyE_take (i := 11) (v := ?_) rfl (by kernel_rfl) (by kernel_rfl) (by kernel_rfl) (by kernel_rfl) (fun _ _ _ h => h) (Or.inl ⟨by rfl, ?_⟩) hHeld (fun hHeld => ?_)
                rotate_left
                · (intro w hSw; (try dsimp only at hSw); (try simp only [List.getElem_toArray, List.getElem_cons_succ, List.getElem_cons_zero]); go_simp; try with_reducible rfl)
                try simp only [List.getElem_toArray, List.getElem_cons_succ, List.getElem_cons_zero, Act.put, List.setIfInBounds_toArray, List.set_cons_zero, List.set_cons_succ]
                refine wpAnyE_load (i := 12) _ _ (v := ?_) rfl (by kernel_rfl) List.mem_cons_self (by kernel_rfl) (by kernel_rfl) (by kernel_rfl) (by kernel_rfl) (fun _ _ _ h => h) (Or.inl ⟨by rfl, ?_⟩) hHeld (fun hHeld => ?_)
                rotate_left
                · (intro w hSw; (try dsimp only at hSw); (try simp only [List.getElem_toArray, List.getElem_cons_succ, List.getElem_cons_zero]); go_simp; try with_reducible rfl)
                try simp only [List.getElem_toArray, List.getElem_cons_succ, List.getElem_cons_zero, Act.put, List.setIfInBounds_toArray, List.set_cons_zero, List.set_cons_succ]
                refine wpAnyE_take (i := 13) (v := ?_) rfl (by kernel_rfl) (by kernel_rfl) (by kernel_rfl) (by kernel_rfl) (fun _ _ _ h => h) (Or.inl ⟨by rfl, ?_⟩) hHeld (fun hHeld => ?_)
                rotate_left
                · (intro w hSw; (try dsimp only at hSw); (try simp only [List.getElem_toArray, List.getElem_cons_succ, List.getElem_cons_zero]); go_simp; try with_reducible rfl)
                try simp only [List.getElem_toArray, List.getElem_cons_succ, List.getElem_cons_zero, Act.put, List.setIfInBounds_toArray, List.set_cons_zero, List.set_cons_succ]
                refine wpAnyE_take (i := 14) (v := ?_) rfl (by kernel_rfl) (by kernel_rfl) (by kernel_rfl) (by kernel_rfl) (fun _ _ _ h => h) (Or.inl ⟨by rfl, ?_⟩) hHeld (fun hHeld => ?_)
                rotate_left
                · (intro w hSw; (try dsimp only at hSw); (try simp only [List.getElem_toArray, List.getElem_cons_succ, List.getElem_cons_zero]); go_simp; try with_reducible rfl)
                try simp only [List.getElem_toArray, List.getElem_cons_succ, List.getElem_cons_zero, Act.put, List.setIfInBounds_toArray, List.set_cons_zero, List.set_cons_succ]
                refine wpAnyE_take (i := 15) (v := ?_) rfl (by kernel_rfl) (by kernel_rfl) (by kernel_rfl) (by kernel_rfl) (fun _ _ _ h => h) (Or.inl ⟨by rfl, ?_⟩) hHeld (fun hHeld => ?_)
                rotate_left
                · (intro w hSw; (try dsimp only at hSw); (try simp only [List.getElem_toArray, List.getElem_cons_succ, List.getElem_cons_zero]); go_simp; try with_reducible rfl)
                try simp only [List.getElem_toArray, List.getElem_cons_succ, List.getElem_cons_zero, Act.put, List.setIfInBounds_toArray, List.set_cons_zero, List.set_cons_succ]
                refine wpAnyE_load (i := 16) _ _ (v := ?_) rfl (by kernel_rfl) (List.mem_cons_of_mem _ (List.mem_cons_of_mem _ List.mem_cons_self)) (by kernel_rfl) (by kernel_rfl) (by kernel_rfl) (by kernel_rfl) (fun _ _ _ h => h) (Or.inl ⟨by rfl, ?_⟩) hHeld (fun hHeld => ?_)
                rotate_left
                · (intro w hSw; (try dsimp only at hSw); (try simp only [List.getElem_toArray, List.getElem_cons_succ, List.getElem_cons_zero]); go_simp; try with_reducible rfl)
                try simp only [List.getElem_toArray, List.getElem_cons_succ, List.getElem_cons_zero, Act.put, List.setIfInBounds_toArray, List.set_cons_zero, List.set_cons_succ]
                refine wpAnyE_ready (rs := [17]) (by kernel_rfl) (by simp) (AllE.cons rfl (fun K hK => ?_) AllE.nil)
                clear hHeld
                go_simp
                refine hK.out _ _ ⟨fun _ => (HCC.out _ HBD.out).1, (fun e => absurd e (Bool.eq_false_iff.1 (by kernel_rfl))), (fun e => absurd e (Bool.eq_false_iff.1 (by kernel_rfl))), trivial⟩ (fun hHeld => ?_)
                clear hK K
                try simp only [List.getElem_toArray, List.getElem_cons_succ, List.getElem_cons_zero, Act.put, List.setIfInBounds_toArray, List.set_cons_zero, List.set_cons_succ]
                refine wpAnyE_ready (rs := [18]) (by kernel_rfl) (by simp) (AllE.cons rfl (fun K hK => ?_) AllE.nil)
                clear hHeld
                go_simp
                refine hK.out _ _ ⟨fun _ => (HCC.out _ HBA.out).1, (fun e => absurd e (Bool.eq_false_iff.1 (by kernel_rfl))), (fun e => absurd e (Bool.eq_false_iff.1 (by kernel_rfl))), trivial⟩ (fun hHeld => ?_)
                clear hK K
                try simp only [List.getElem_toArray, List.getElem_cons_succ, List.getElem_cons_zero, Act.put, List.setIfInBounds_toArray, List.set_cons_zero, List.set_cons_succ]
                refine wpAnyE_ready (rs := [19]) (by kernel_rfl) (by simp) (AllE.cons rfl (fun K hK => ?_) AllE.nil)
                clear hHeld
                refine step_append_lies _ rfl (.tmp 105) (.tmp 123) 40 rfl w.heap.size 62 i0 _ 4 48 Try.underlying40 hi hz0 hz1 hz2 rfl (by decide) _ len _ rfl (HND.out.alloc _) ⟨wn.heap.size, 0, none⟩ 1 1 [.string xu, .int .i64 xt, .bool true, .string .empty] rfl rfl (World.news_of_block HNB.out) (by simp [Value.oneCell']) (by decide) (by unfold maxLen; omega) (by omega) HBA.out.size _ rfl ?_
                intro g7 cap7 w6 hown hgr _ _
                have HO6 := Lib.hid hown
                have HB6 := Lib.hid (HBA.out.grown hgr HBA.out.size (fun k e => (HRN.out.lt k e).1))
                clear hown hgr
                refine hK.out _ _ ⟨fun _ => (HCC.out _ HB6.out).1, (fun e => absurd e (Bool.eq_false_iff.1 (by kernel_rfl))), (fun e => absurd e (Bool.eq_false_iff.1 (by kernel_rfl))), trivial⟩ (fun hHeld => ?_)
                clear hK K
                try simp only [List.getElem_toArray, List.getElem_cons_succ, List.getElem_cons_zero, Act.put, List.setIfInBounds_toArray, List.set_cons_zero, List.set_cons_succ]
                refine wpAnyE_take (i := 20) (v := ?_) rfl (by kernel_rfl) (by kernel_rfl) (by kernel_rfl) (by kernel_rfl) (fun _ _ _ h => h) (Or.inl ⟨by rfl, ?_⟩) hHeld (fun hHeld => ?_)
                rotate_left
                · (intro w hSw; (try dsimp only at hSw); (try simp only [List.getElem_toArray, List.getElem_cons_succ, List.getElem_cons_zero]); go_simp; try with_reducible rfl)
                try simp only [List.getElem_toArray, List.getElem_cons_succ, List.getElem_cons_zero, Act.put, List.setIfInBounds_toArray, List.set_cons_zero, List.set_cons_succ]
                refine wpAnyE_done (by kernel_rfl) (only_normal ?_) _
                go_wp2
                go_roundw
                case rel => exact ⟨m, _, by omega, rfl, by unfold Zj; first | rfl | go_num, by rw [HSK.out, HIT.out, List.length_append, HLE.out, itsC_append]; exact HO6.out, HB6.out⟩
                case measure => (simp [intOf] <;> omega)
    · obtain rfl : j = 0 := by omega
      have hzn : z < 0 := by omega
      have hzg : ¬ z ≥ 0 := by omega
      clear hz
      have hol := HFL.out 0 (Nat.zero_le _)
      obtain ⟨out, hout⟩ : ∃ o, rFrom L T lg 0 = o := ⟨_, rfl⟩
      rw [hout] at hro hol
      have HOT := Lib.hid hout
      have HRI := Lib.hid (rise_any hro rfl (by omega))
      clear hro hout
      go_wp2_with fail
      refine HRI.out.mono ?_
      rintro _ w2 ⟨rfl, ys, h1, h2, h3, h4⟩
      have HY := Lib.hid (And.intro (show ys.Perm (rFrom L T lg 0) by rw [HOT.out]; exact h1) (And.intro h2 (rise_pack h1 h3 rfl)))
      have HB2 := Lib.hid (HB.out.trans h4)
      clear h1 h2 h3 h4
      go_wp2
      go_ret2
      exact ⟨_, ys, HY.out.1, HY.out.2.1, rfl, HY.out.2.2, HB2.out⟩
end Go.Proofs.Ythcjbljkokflgaa
namespace Go.Proofs.Ythcjbljkokflgaa
open Go.RowKit
open Go.Lib
set_option linter.unusedVariables false
set_option linter.unusedSimpArgs false
set_option maxRecDepth 100000
theorem sin0_len {k : Nat} {c : Cs} (hi : Inv k c) (T : Int) : (sin0 c T).length ≤ k := by
  unfold sin0
  split
  · rw [itsK_len]; exact hi.n
  · rw [chgL_len]
    unfold lastL
    exact Nat.le_trans (accL_len _) (Nat.le_trans (List.takeWhile_sublist _).length_le (by rw [List.length_reverse, ord_len]; exact hi.r))
section
variable {w wr w' : World} {g r k : Nat} {c : Cs} {R : Rs}
theorem Du.csince (h : Du w wr g r k c R) (hk : k ≤ 1000) (T : Int) (ho : T = 0 ∨ (c.horizon ≤ T ∧ T ≤ c.latest)) : Calls Try.prog 28 #[.pointer (some ⟨g, 0, none⟩), .int .i64 T] wr fun e w' => ∃ U ys, Sin c T ys ∧ e = .returned (.tuple #[U, .int .i64 0]) ∧ w'.ownsRow wr.heap.size 62 4 U ys.length (itsC ys) ∧ Below wr.heap.size wr w' := by
  have hf := h.inv.fit (by omega)
  by_cases h0 : T = 0
  · subst h0
    exact since_live h.cl h.inv.srt hf
  · have h1 := ho.resolve_left h0
    exact since_chg h.cl hf h0 h1.1 h1.2
theorem Du.rsince (h : Du w wr g r k c R) (hk : k ≤ 1000) (T : Int) (ho : T = 0 ∨ (c.horizon ≤ T ∧ T ≤ c.latest)) : Calls Try.prog 29 #[.pointer (some ⟨r, 0, none⟩), .int .i64 T] wr fun e w' => ∃ U ys, ys.Perm (rsin0 R T) ∧ RiL ys ∧ e = .returned (.tuple #[U, .int .i64 0]) ∧ w'.ownsRow wr.heap.size 62 4 U ys.length (itsC ys) ∧ Below wr.heap.size wr w' := by
  have hn : R.L.length ≤ 20000 := by rw [h.sim.L]; have := h.inv.n; omega
  by_cases h0 : T = 0
  · subst h0
    exact rsince_live h.rc hn
  · have h1 := ho.resolve_left h0
    exact rsince_chg h.rc (by rw [h.sim.L]; exact h.inv.srt) hn (by rw [h.sim.log, ord_len]; have := h.inv.r; omega) h0 (by rw [h.sim.ho]; exact h1.1) (by rw [h.sim.la]; exact h1.2)
/-- Since of both answers the same. -/
theorem Du.since_same (h : Du w wr g r k c R) {T : Int} {ys zs : List It} (h1 : Sin c T ys) (h2 : zs.Perm (rsin0 R T)) (h3 : RiL zs) : zs = ys := (sin_same h.sim h.inv h1 h2 h3).symm
theorem Du.sin_len (h : Du w wr g r k c R) {T : Int} {ys : List It} (h1 : Sin c T ys) : ys.length ≤ k := by rw [h1.1.length_eq]; exact sin0_len h.inv T
end
theorem its_nil (w : World) : Its w none 0 0 0 0 [] := ⟨rfl, Nat.le_refl _, fun h => absurd h (by omega), fun j t h => by simp at h⟩
end Go.Proofs.Ythcjbljkokflgaa
