/- The reference's rise: the walk. -/
import Derived.Test.YthcjbljkokflgaaZag
import Derived.Test.YthcjbljkokflgaaZaa
import Derived.Test.YthcjbljkokflgaaZae
set_option linter.unnecessarySimpa false
/- The reference's rise: an insertion sort. -/
namespace Go.Proofs.Ythcjbljkokflgaa
open Go.RowKit
open Go.Lib
set_option linter.unusedVariables false
set_option linter.unusedSimpArgs false
set_option maxRecDepth 100000
/-- By version, then by UID. -/
def bef (x y : It) : Bool := decide (x.v < y.v) || (decide (x.v = y.v) && klt x.u y.u)
theorem bef_no {x y : It} : bef y x = false ↔ x.v < y.v ∨ (x.v = y.v ∧ klt y.u x.u = false) := by
  unfold bef
  by_cases h : y.v < x.v
  · rw [decide_eq_true h]
    refine ⟨fun e => by simp at e, fun e => ?_⟩
    rcases e with e | ⟨e, _⟩ <;> omega
  · rw [decide_eq_false h, Bool.false_or]
    by_cases e : y.v = x.v
    · rw [decide_eq_true e, Bool.true_and]
      exact ⟨fun k => .inr ⟨e.symm, k⟩, fun k => by rcases k with k | ⟨_, k⟩; omega; exact k⟩
    · rw [decide_eq_false e, Bool.false_and]
      exact ⟨fun _ => .inl (by omega), fun _ => rfl⟩
theorem kle_trans {a b c : ByteArray} (h : klt b a = false) (k : klt c b = false) : klt c a = false := by
  by_cases e : a = b
  · subst e; exact k
  · have h1 : klt a b = true := (klt_total e).resolve_right (by rw [h]; decide)
    by_cases e2 : b = c
    · subst e2; exact h
    · have h2 : klt b c = true := (klt_total e2).resolve_right (by rw [k]; decide)
      exact klt_asym (klt_trans h1 h2)
theorem bef_trans {x y z : It} (h : bef y x = false) (k : bef z y = false) : bef z x = false := by
  rw [bef_no] at h k ⊢
  rcases h with h | ⟨h, h'⟩ <;> rcases k with k | ⟨k, k'⟩
  · exact .inl (by omega)
  · exact .inl (by omega)
  · exact .inl (by omega)
  · exact .inr ⟨by omega, kle_trans h' k'⟩
theorem bef_asym {x y : It} (h : bef x y = true) : bef y x = false := by
  rw [bef_no]
  unfold bef at h
  simp only [Bool.or_eq_true, decide_eq_true_eq, Bool.and_eq_true] at h
  rcases h with h | ⟨h, k⟩
  · exact .inl h
  · exact .inr ⟨h, klt_asym k⟩
abbrev RiL (l : List It) : Prop := l.Pairwise fun x y => bef y x = false
/-- Where it belongs. -/
theorem ril_ins {A Bl : List It} {x : It} (h : RiL (A ++ Bl)) (hb : ∀ b ∈ Bl, bef x b = true) (ha : ∀ a, A.getLast? = some a → bef x a = false) : RiL (A ++ x :: Bl) := by
  obtain ⟨h1, h2, h3⟩ := List.pairwise_append.1 h
  have h4 : ∀ a ∈ A, bef x a = false := by
    intro a hm
    obtain ⟨l, hl⟩ : ∃ l, A.getLast? = some l := by
      cases hA : A.getLast? with
      | none => rw [List.getLast?_eq_none_iff.1 hA] at hm; cases hm
      | some l => exact ⟨l, rfl⟩
    obtain ⟨A', rfl⟩ := List.getLast?_eq_some_iff.1 hl
    rcases List.mem_append.1 hm with hm | hm
    · exact bef_trans ((List.pairwise_append.1 h1).2.2 a hm l List.mem_cons_self) (ha l hl)
    · rw [List.mem_singleton.1 hm]; exact ha l hl
  refine List.pairwise_append.2 ⟨h1, List.pairwise_cons.2 ⟨fun b hb' => bef_asym (hb b hb'), h2⟩, fun a hm b hb' => ?_⟩
  rcases List.mem_cons.1 hb' with rfl | hb'
  · exact h4 a hm
  · exact h3 a hm b hb'
theorem itsC_set : ∀ (l : List It) (j : Nat) (x : It), j < l.length → itsC (l.set j x) = ((((itsC l).set (j * 4) (.string x.u)).set (j * 4 + 1) (.int .i64 x.v)).set (j * 4 + 2) (.bool x.x)).set (j * 4 + 3) (.string x.c)
  | [], j, x, h => by simp at h
  | y :: xs, 0, x, h => rfl
  | y :: xs, j + 1, x, h => by
    have e := itsC_set xs j x (by simpa using h)
    show itC y ++ itsC (xs.set j x) = ((((itC y ++ itsC xs).set ((j + 1) * 4) (.string x.u)).set ((j + 1) * 4 + 1) (.int .i64 x.v)).set ((j + 1) * 4 + 2) (.bool x.x)).set ((j + 1) * 4 + 3) (.string x.c)
    have hl : (itC y).length = 4 := rfl
    rw [e, List.set_append_right _ _ (by omega), List.set_append_right _ _ (by omega), List.set_append_right _ _ (by omega), List.set_append_right _ _ (by omega), hl, show (j + 1) * 4 - 4 = j * 4 by omega, show (j + 1) * 4 + 1 - 4 = j * 4 + 1 by omega, show (j + 1) * 4 + 2 - 4 = j * 4 + 2 by omega, show (j + 1) * 4 + 3 - 4 = j * 4 + 3 by omega]
def set4 (w : World) (g j : Nat) (x : It) : World := (((w.setCell ⟨g, j * 4, none⟩ (.string x.u)).setCell ⟨g, j * 4 + 1, none⟩ (.int .i64 x.v)).setCell ⟨g, j * 4 + 2, none⟩ (.bool x.x)).setCell ⟨g, j * 4 + 3, none⟩ (.string x.c)
theorem own_set4 {w : World} {B g n cap : Nat} {l : List It} (h : w.ownsRow B 62 4 (.slice (some ⟨g, 0, none⟩) n cap) n (itsC l)) (hn : l.length = n) (j : Nat) (hj : j < n) (x : It) :
    (set4 w g j x).ownsRow B 62 4 (.slice (some ⟨g, 0, none⟩) n cap) n (itsC (l.set j x)) := by
  obtain ⟨h0, h3 | ⟨b, cap', cur, e1, e2, e3, e4, e5, e6, e7⟩⟩ := h
  · exact absurd h3.2 (by omega)
  · cases e1
    have hB : Blk w g 62 cur := e3
    have hB2 := (((hB.set_ (j * 4) (.string x.u)).set_ (j * 4 + 1) (.int .i64 x.v)).set_ (j * 4 + 2) (.bool x.x)).set_ (j * 4 + 3) (.string x.c)
    refine ⟨by rw [itsC_len, List.length_set, hn], .inr ⟨g, cap, _, rfl, e2, hB2, e4, e5, ?_, ?_⟩⟩
    · simp; exact e6
    · rw [itsC_set l j x (by omega), ← e7]
      simp only [Array.toList_setIfInBounds, List.take_set, List.length_set]
theorem set4_below {w0 w : World} {B g j : Nat} {x : It} (h : Below B w0 w) (hg : B ≤ g) : Below B w0 (set4 w g j x) := by
  unfold set4
  refine ⟨h.os, h.tape, h.output, by simpa [World.setCell] using h.size, fun k hk => ?_⟩
  rw [Below.heap_setCell _ ⟨g, _, none⟩ _ k (by show k ≠ g; omega), Below.heap_setCell _ ⟨g, _, none⟩ _ k (by show k ≠ g; omega), Below.heap_setCell _ ⟨g, _, none⟩ _ k (by show k ≠ g; omega), Below.heap_setCell _ ⟨g, _, none⟩ _ k (by show k ≠ g; omega)]
  exact h.block k hk
theorem swap_list (A : List It) (a x : It) (T : List It) : ((A ++ a :: x :: T).set (A.length + 1) a).set A.length x = A ++ x :: a :: T := by
  rw [List.set_append_right _ _ (by omega), show A.length + 1 - A.length = 1 by omega, List.set_append_right _ _ (by omega), Nat.sub_self]
  rfl
end Go.Proofs.Ythcjbljkokflgaa
namespace Go.Proofs.Ythcjbljkokflgaa
open Go.RowKit
open Go.Lib
set_option linter.unusedVariables false
set_option linter.unusedSimpArgs false
set_option maxRecDepth 100000
theorem row_addr {w : World} {B n k : Nat} {e : TypeId} {V : Value} {vs : List Value} (h : w.ownsRow B e k V n vs) : ∃ A cap g, V = .slice A n cap ∧ n ≤ cap ∧ (0 < n → A = some ⟨g, 0, none⟩ ∧ B ≤ g) := by
  obtain ⟨h0, ⟨rfl, rfl⟩ | ⟨g, cap, cur, rfl, e2, e3, e4, e5, e6, e7⟩⟩ := h
  · exact ⟨none, 0, 0, rfl, Nat.le_refl _, fun h => absurd h (by omega)⟩
  · exact ⟨some ⟨g, 0, none⟩, cap, g, rfl, e4, fun _ => ⟨rfl, e2⟩⟩
theorem row_item {w : World} {B n cap g : Nat} {l : List It} (h : w.ownsRow B 62 4 (.slice (some ⟨g, 0, none⟩) n cap) n (itsC l)) {j : Nat} {x : It} (hx : l[j]? = some x) :
    w.cell? ⟨g, j * 4, none⟩ = some (.string x.u) ∧ w.cell? ⟨g, j * 4 + 1, none⟩ = some (.int .i64 x.v) ∧ w.cell? ⟨g, j * 4 + 2, none⟩ = some (.bool x.x) ∧ w.cell? ⟨g, j * 4 + 3, none⟩ = some (.string x.c) ∧ w.frozen? ⟨g, j * 4, none⟩ = false ∧ w.frozen? ⟨g, j * 4 + 1, none⟩ = false ∧ w.frozen? ⟨g, j * 4 + 2, none⟩ = false ∧ w.frozen? ⟨g, j * 4 + 3, none⟩ = false := by
  obtain ⟨h0, h3 | ⟨b, cap', cur, e1, e2, e3, e4, e5, e6, e7⟩⟩ := h
  · cases h3.1
  · cases e1
    have hB : Blk w g 62 cur := e3
    have hj := (List.getElem?_eq_some_iff.1 hx).1
    have hjn : j < n := by rw [itsC_len] at h0; omega
    have key : ∀ i, i < 4 → w.cell? ⟨g, j * 4 + i, none⟩ = (itC x)[i]? := fun i hi => by
      rw [hB.cell, ← itsC_get l j x hx i hi, ← e7, List.getElem?_take_of_lt (by omega), Array.getElem?_toList]
    exact ⟨key 0 (by omega), key 1 (by omega), key 2 (by omega), key 3 (by omega), hB.frozen _, hB.frozen _, hB.frozen _, hB.frozen _⟩
/-- What stands in a round of the inner loop. -/
structure Rk (w wr : World) (B g n cap q : Nat) (xs A Bl T : List It) (x : It) : Prop where
  row : wr.ownsRow B 62 4 (.slice (some ⟨g, 0, none⟩) n cap) n (itsC (A ++ x :: (Bl ++ T)))
  perm : (A ++ x :: (Bl ++ T)).Perm xs
  len : A.length + Bl.length = q
  ri : RiL (A ++ Bl)
  be : ∀ b ∈ Bl, bef x b = true
  bel : Below B w wr
theorem Rk.start {w wr : World} {B g n cap q : Nat} {xs cur : List It} (hr : wr.ownsRow B 62 4 (.slice (some ⟨g, 0, none⟩) n cap) n (itsC cur)) (hp : cur.Perm xs) (hs : RiL (cur.take q)) (hb : Below B w wr) (hq : q < cur.length) : ∃ A x T, A.length = q ∧ Rk w wr B g n cap q xs A [] T x := by
  refine ⟨cur.take q, cur[q], cur.drop (q + 1), by rw [List.length_take]; omega, ?_, ?_, by rw [List.length_take]; simp; omega, by rw [List.append_nil]; exact hs, (fun b h => by cases h), hb⟩
  · rw [List.nil_append, ← List.drop_eq_getElem_cons hq, List.take_append_drop]; exact hr
  · rw [List.nil_append, ← List.drop_eq_getElem_cons hq, List.take_append_drop]; exact hp
theorem Rk.done {w wr : World} {B g n cap q : Nat} {xs A Bl T : List It} {x : It} (h : Rk w wr B g n cap q xs A Bl T x) (ha : ∀ a, A.getLast? = some a → bef x a = false) : ∃ cur, wr.ownsRow B 62 4 (.slice (some ⟨g, 0, none⟩) n cap) n (itsC cur) ∧ cur.Perm xs ∧ RiL (cur.take (q + 1)) ∧ Below B w wr := by
  refine ⟨_, h.row, h.perm, ?_, h.bel⟩
  have e : (A ++ x :: (Bl ++ T)).take (q + 1) = A ++ x :: Bl := by
    have := h.len
    rw [show A ++ x :: (Bl ++ T) = (A ++ x :: Bl) ++ T by simp, List.take_left' (by simp; omega)]
  rw [e]
  exact ril_ins h.ri h.be ha
theorem Rk.drewN {w wr : World} {B g n cap q : Nat} {xs A Bl T : List It} {x : It} (h : Rk w wr B g n cap q xs A Bl T x) (k : Nat) : Rk w (wr.drewN k) B g n cap q xs A Bl T x := ⟨own_keep h.row (fun _ _ => rfl), h.perm, h.len, h.ri, h.be, below_drewN h.bel k⟩
/-- Half exchanged. -/
structure Rh (w wr : World) (B g n cap q : Nat) (xs A Bl T : List It) (x a : It) : Prop where
  row : wr.ownsRow B 62 4 (.slice (some ⟨g, 0, none⟩) n cap) n (itsC (A ++ a :: a :: (Bl ++ T)))
  perm : (A ++ a :: x :: (Bl ++ T)).Perm xs
  len : A.length + 1 + Bl.length = q
  ri : RiL (A ++ a :: Bl)
  be : ∀ b ∈ Bl, bef x b = true
  bel : Below B w wr
theorem set_mid (A : List It) (a x y : It) (R : List It) : (A ++ a :: x :: R).set (A.length + 1) y = A ++ a :: y :: R := by
  rw [List.set_append_right _ _ (by omega), show A.length + 1 - A.length = 1 by omega]
  rfl
theorem set_at (A : List It) (a y : It) (R : List It) : (A ++ a :: R).set A.length y = A ++ y :: R := by
  rw [List.set_append_right _ _ (by omega), Nat.sub_self]
  rfl
theorem Rk.half {w wr : World} {B g n cap q p m : Nat} {xs A Bl T : List It} {x a : It} (h : Rk w wr B g n cap q xs (A ++ [a]) Bl T x) (hn : xs.length = n) (hg : B ≤ g) (hp : A.length = p) (hm : m = p + 1) : Rh w (set4 wr g m a).drew B g n cap q xs A Bl T x a := by
  subst hm hp
  obtain ⟨h1, h2, h3, h4, h5, h6⟩ := h
  simp only [List.append_assoc, List.singleton_append] at h1 h2 h4
  have hl : (A ++ a :: x :: (Bl ++ T)).length = n := by rw [← hn, ← h2.length_eq]
  have hr := own_set4 h1 hl (A.length + 1) (by rw [← hl]; simp) a
  rw [set_mid] at hr
  exact ⟨own_keep hr (fun _ _ => rfl), h2, by simpa using h3, h4, h5, (set4_below h6 hg).drew⟩
theorem Rh.full {w wr : World} {B g n cap q p : Nat} {xs A Bl T : List It} {x a : It} (h : Rh w wr B g n cap q xs A Bl T x a) (hn : xs.length = n) (hg : B ≤ g) (hb : bef x a = true) (hp : A.length = p) : Rk w (set4 wr g p x) B g n cap q xs A (a :: Bl) T x := by
  subst hp
  obtain ⟨h1, h2, h3, h4, h5, h6⟩ := h
  have hl : (A ++ a :: a :: (Bl ++ T)).length = n := by rw [← hn, ← h2.length_eq]; simp
  have hr := own_set4 h1 hl A.length (by rw [← hl]; simp) x
  rw [set_at] at hr
  exact ⟨hr, (List.Perm.append_left A (List.Perm.swap _ _ _)).trans h2, by simp; omega, h4, (fun b hb' => by
    rcases List.mem_cons.1 hb' with rfl | hb'
    · exact hb
    · exact h5 b hb'), set4_below h6 hg⟩
theorem Rh.at_ {w wr : World} {B g n cap q p : Nat} {xs A Bl T : List It} {x a : It} (h : Rh w wr B g n cap q xs A Bl T x a) (hp : A.length = p) : (A ++ a :: a :: (Bl ++ T))[p]? = some a := by
  rw [List.getElem?_append_right (by omega)]; simp [hp]
set_option maxHeartbeats 8000000 in
theorem rise_any {w : World} {B n : Nat} {V : Value} {xs : List It} (h : w.ownsRow B 62 4 V n (itsC xs)) (hl : xs.length = n) (hn : n ≤ 100000) : Calls Try.prog 55 #[V] w fun e w' => e = .returned V ∧ ∃ ys, ys.Perm xs ∧ RiL ys ∧ w'.ownsRow B 62 4 V n (itsC ys) ∧ Below B w w' := by
  obtain ⟨A0, cap, g, rfl, hcap, hA⟩ := row_addr h
  have H0 := Lib.hid h
  have hnI : (n : Int) ≤ 100000 := by omega
  have HL := Lib.hid hl
  clear h hl
  go_enter Try.func55, Try.ntmps55
  go_wp2
  go_loopw [3] (fun i wr => ∃ (q : Nat) (cur : List It), 1 ≤ q ∧ i = .int .i64 (q : Int) ∧ wr.ownsRow B 62 4 (.slice A0 n cap) n (itsC cur) ∧ cur.Perm xs ∧ RiL (cur.take q) ∧ Below B w wr) (fun i _ => n + 1 - (intOf i).toNat)
  case atStart => exact ⟨1, xs, Nat.le_refl _, rfl, H0.out, List.Perm.refl _, by cases xs <;> simp, Below.refl _ _⟩
  case round =>
    obtain ⟨q, cur, hq1, rfl, hr, hp, hs, hb⟩ := hrel
    have HC := Lib.hid (show wr.ownsRow B 62 4 (.slice A0 n cap) n (itsC cur) ∧ cur.Perm xs ∧ RiL (cur.take q) ∧ Below B w wr from ⟨hr, hp, hs, hb⟩)
    have hcl : cur.length = n := by rw [hp.length_eq]; exact HL.out
    clear hr hp hs hb
    by_cases hql : q < n
    · obtain ⟨rfl, hBg⟩ := hA (by omega)
      have hqI : (q : Int) < (n : Int) := by omega
      obtain ⟨A1, x1, T1, hA1, hk⟩ := Rk.start HC.out.1 HC.out.2.1 HC.out.2.2.1 HC.out.2.2.2 (by rw [hcl]; exact hql)
      have HK := Lib.hid hk
      have HA1 := Lib.hid hA1
      have hdq : decide ((q : Int) < (n : Int)) = true := decide_eq_true hqI
      clear hk hA1 hcl
      go_wp2
      try simp only [hdq]
      go_loopw [4] (fun kk wr2 => ∃ (m : Nat) (A Bl T : List It) (x : It), kk = .int .i64 (m : Int) ∧ A.length = m ∧ Rk w wr2 B g n cap q xs A Bl T x) (fun kk _ => (intOf kk).toNat)
      case atStart => exact ⟨q, A1, [], T1, x1, rfl, HA1.out, HK.out⟩
      case round =>
        obtain ⟨m, A, Bl, T, x, rfl, hm, hk⟩ := hrel
        have HK2 := Lib.hid hk
        have HM := Lib.hid hm
        have hm' := hm
        clear hk hm
        have hlen := HK2.out.perm.length_eq
        rw [HL.out] at hlen
        rcases List.eq_nil_or_concat A with hA0 | ⟨A', a, hA0⟩
        · have hm0 : ¬ (0 < m) := by rw [hA0] at hm'; simp at hm'; omega
          have d0 : decide ((m : Int) > 0) = false := decide_eq_false (by omega)
          have d1 : decide (0 < m) = false := decide_eq_false hm0
          have HD := Lib.hid (HK2.out.done (fun a ha => by rw [hA0] at ha; cases ha))
          clear hlen hA0 hm'
          go_wp2_with fail
          go_quiet (fail)
          go_wp2
          obtain ⟨cur2, e1, e2, e3, e4⟩ := HD.out
          go_roundw
          case rel => exact ⟨q + 1, cur2, by omega, by go_num, own_keep e1 (fun _ _ => rfl), e2, e3, below_drewN e4 _⟩
          case measure => simp [intOf]; omega
        · subst hA0
          obtain ⟨p, hp⟩ : ∃ p, A'.length = p := ⟨_, rfl⟩
          have hmp : m = p + 1 := by rw [← hm', List.concat_eq_append]; simp [hp]
          have HP := Lib.hid hp
          have HMP := Lib.hid hmp
          rw [List.concat_eq_append] at HK2 hlen
          have hmn : m < n := by rw [← hlen]; simp; omega
          obtain ⟨c0, c1, c2, c3, f0, f1, f2, f3⟩ := row_item HK2.out.row (j := m) (x := x) (by rw [List.getElem?_append_right (by simp; omega)]; simp [hp, hmp])
          obtain ⟨d0, d1, d2, d3, k0, k1, k2, k3⟩ := row_item HK2.out.row (j := p) (x := a) (by rw [List.append_assoc, List.getElem?_append_right (by omega)]; simp [hp])
          have HJ := Lib.hid (show (A' ++ [a] ++ x :: (Bl ++ T))[m]? = some x ∧ (A' ++ [a] ++ x :: (Bl ++ T))[p]? = some a from ⟨by rw [List.getElem?_append_right (by simp; omega)]; simp [hp, hmp], by rw [List.append_assoc, List.getElem?_append_right (by omega)]; simp [hp]⟩)
          obtain ⟨xu, xv, xx, xc⟩ := x
          obtain ⟨au, av, ax, ac⟩ := a
          simp only at c0 c1 c2 c3 d0 d1 d2 d3
          have i1 : IntKind.i64.wrap ((m : Int) - 1) = (p : Int) := by rw [IntWalk.i64_in _ (by omega)]; omega
          have i2 : wrap64 ((m : Int) - 1) = (p : Int) := by rw [IntWalk.wrap64_in _ (by omega)]; omega
          have g0 : decide ((m : Int) > 0) = true := decide_eq_true (by omega)
          have g1 : decide (0 < m) = true := decide_eq_true (by omega)
          have hmI : (m : Int) < (n : Int) := by omega
          have hpI : (p : Int) < (n : Int) := by omega
          have hpc : p < cap := by omega
          have hmc : m < cap := by omega
          clear hlen hmp hp hm'
          by_cases hv : xv < av
          · have v1 : decide (xv < av) = true := decide_eq_true hv
            have HBE := Lib.hid (show bef ⟨xu, xv, xx, xc⟩ ⟨au, av, ax, ac⟩ = true by unfold bef; simp only; rw [v1]; rfl)
            go_wp2_with fail
            go_quiet (fail)
            go_wp2_with fail
            obtain ⟨W, hW⟩ : ∃ W, wr.drewN nq = W := ⟨_, rfl⟩
            have HKW := Lib.hid (hW ▸ HK2.out.drewN nq)
            rw [hW]
            clear c0 c1 c2 c3 d0 d1 d2 d3 f0 f1 f2 f3 k0 k1 k2 k3
            obtain ⟨c0, c1, c2, c3, f0, f1, f2, f3⟩ := row_item (w := W) HKW.out.row (j := m) (x := ⟨xu, xv, xx, xc⟩) HJ.out.1
            obtain ⟨d0, d1, d2, d3, k0, k1, k2, k3⟩ := row_item (w := W) HKW.out.row (j := p) (x := ⟨au, av, ax, ac⟩) HJ.out.2
            simp only at c0 c1 c2 c3 d0 d1 d2 d3
            refine wp_region_E [([15], fun w' => w'.cell? ⟨g, p * 4, none⟩ = some (.string au) ∧ w'.cell? ⟨g, p * 4 + 1, none⟩ = some (.int .i64 av) ∧ w'.cell? ⟨g, p * 4 + 2, none⟩ = some (.bool ax) ∧ w'.cell? ⟨g, p * 4 + 3, none⟩ = some (.string ac)), ([15], fun w' => w'.cell? ⟨g, m * 4, none⟩ = some (.string xu) ∧ w'.cell? ⟨g, m * 4 + 1, none⟩ = some (.int .i64 xv) ∧ w'.cell? ⟨g, m * 4 + 2, none⟩ = some (.bool xx) ∧ w'.cell? ⟨g, m * 4 + 3, none⟩ = some (.string xc))] (by kernel_rfl) ⟨fun _ => ⟨d0, d1, d2, d3⟩, fun _ => ⟨c0, c1, c2, c3⟩, trivial⟩ (fun hHeld => ?_)
            refine wpAnyE_take (i := 0) (v := ?_) rfl (by kernel_rfl) (by kernel_rfl) (by kernel_rfl) (by kernel_rfl) (fun _ _ _ h => h) (Or.inl ⟨by rfl, ?_⟩) hHeld (fun hHeld => ?_)
            rotate_left
            · (intro w hSw; (try dsimp only at hSw); (try simp only [List.getElem_toArray, List.getElem_cons_succ, List.getElem_cons_zero]); go_simp; try with_reducible rfl)
            try simp only [List.getElem_toArray, List.getElem_cons_succ, List.getElem_cons_zero, Act.put, List.setIfInBounds_toArray, List.set_cons_zero, List.set_cons_succ]
            refine wpAnyE_take (i := 1) (v := ?_) rfl (by kernel_rfl) (by kernel_rfl) (by kernel_rfl) (by kernel_rfl) (fun _ _ _ h => h) (Or.inl ⟨by rfl, ?_⟩) hHeld (fun hHeld => ?_)
            rotate_left
            · (intro w hSw; (try dsimp only at hSw); (try simp only [List.getElem_toArray, List.getElem_cons_succ, List.getElem_cons_zero]); go_simp; try with_reducible rfl)
            try simp only [List.getElem_toArray, List.getElem_cons_succ, List.getElem_cons_zero, Act.put, List.setIfInBounds_toArray, List.set_cons_zero, List.set_cons_succ]
            refine wpAnyE_take (i := 2) (v := ?_) rfl (by kernel_rfl) (by kernel_rfl) (by kernel_rfl) (by kernel_rfl) (fun _ _ _ h => h) (Or.inl ⟨by rfl, ?_⟩) hHeld (fun hHeld => ?_)
            rotate_left
            · (intro w hSw; (try dsimp only at hSw); (try simp only [List.getElem_toArray, List.getElem_cons_succ, List.getElem_cons_zero]); go_simp; try with_reducible rfl)
            try simp only [List.getElem_toArray, List.getElem_cons_succ, List.getElem_cons_zero, Act.put, List.setIfInBounds_toArray, List.set_cons_zero, List.set_cons_succ]
            refine wpAnyE_take (i := 3) (v := ?_) rfl (by kernel_rfl) (by kernel_rfl) (by kernel_rfl) (by kernel_rfl) (fun _ _ _ h => h) (Or.inl ⟨by rfl, ?_⟩) hHeld (fun hHeld => ?_)
            rotate_left
            · (intro w hSw; (try dsimp only at hSw); (try simp only [List.getElem_toArray, List.getElem_cons_succ, List.getElem_cons_zero]); go_simp; try with_reducible rfl)
            try simp only [List.getElem_toArray, List.getElem_cons_succ, List.getElem_cons_zero, Act.put, List.setIfInBounds_toArray, List.set_cons_zero, List.set_cons_succ]
            refine wpAnyE_take (i := 4) (v := ?_) rfl (by kernel_rfl) (by kernel_rfl) (by kernel_rfl) (by kernel_rfl) (fun _ _ _ h => h) (Or.inl ⟨by rfl, ?_⟩) hHeld (fun hHeld => ?_)
            rotate_left
            · (intro w hSw; (try dsimp only at hSw); (try simp only [List.getElem_toArray, List.getElem_cons_succ, List.getElem_cons_zero]); go_simp; try with_reducible rfl)
            try simp only [List.getElem_toArray, List.getElem_cons_succ, List.getElem_cons_zero, Act.put, List.setIfInBounds_toArray, List.set_cons_zero, List.set_cons_succ]
            refine wpAnyE_take (i := 5) (v := ?_) rfl (by kernel_rfl) (by kernel_rfl) (by kernel_rfl) (by kernel_rfl) (fun _ _ _ h => h) (Or.inl ⟨by rfl, ?_⟩) hHeld (fun hHeld => ?_)
            rotate_left
            · (intro w hSw; (try dsimp only at hSw); (try simp only [List.getElem_toArray, List.getElem_cons_succ, List.getElem_cons_zero]); go_simp; try with_reducible rfl)
            try simp only [List.getElem_toArray, List.getElem_cons_succ, List.getElem_cons_zero, Act.put, List.setIfInBounds_toArray, List.set_cons_zero, List.set_cons_succ]
            refine wpAnyE_take (i := 6) (v := ?_) rfl (by kernel_rfl) (by kernel_rfl) (by kernel_rfl) (by kernel_rfl) (fun _ _ _ h => h) (Or.inl ⟨by rfl, ?_⟩) hHeld (fun hHeld => ?_)
            rotate_left
            · (intro w hSw; (try dsimp only at hSw); (try simp only [List.getElem_toArray, List.getElem_cons_succ, List.getElem_cons_zero]); go_simp; try with_reducible rfl)
            try simp only [List.getElem_toArray, List.getElem_cons_succ, List.getElem_cons_zero, Act.put, List.setIfInBounds_toArray, List.set_cons_zero, List.set_cons_succ]
            refine wpAnyE_take (i := 7) (v := ?_) rfl (by kernel_rfl) (by kernel_rfl) (by kernel_rfl) (by kernel_rfl) (fun _ _ _ h => h) (Or.inl ⟨by rfl, ?_⟩) hHeld (fun hHeld => ?_)
            rotate_left
            · (intro w hSw; (try dsimp only at hSw); (try simp only [List.getElem_toArray, List.getElem_cons_succ, List.getElem_cons_zero]); go_simp; try with_reducible rfl)
            try simp only [List.getElem_toArray, List.getElem_cons_succ, List.getElem_cons_zero, Act.put, List.setIfInBounds_toArray, List.set_cons_zero, List.set_cons_succ]
            refine wpAnyE_take (i := 8) (v := ?_) rfl (by kernel_rfl) (by kernel_rfl) (by kernel_rfl) (by kernel_rfl) (fun _ _ _ h => h) (Or.inl ⟨by rfl, ?_⟩) hHeld (fun hHeld => ?_)
            rotate_left
            · (intro w hSw; (try dsimp only at hSw); (try simp only [List.getElem_toArray, List.getElem_cons_succ, List.getElem_cons_zero]); go_simp; try with_reducible rfl)
            try simp only [List.getElem_toArray, List.getElem_cons_succ, List.getElem_cons_zero, Act.put, List.setIfInBounds_toArray, List.set_cons_zero, List.set_cons_succ]
            refine wpAnyE_load (i := 9) _ _ (v := ?_) rfl (by kernel_rfl) List.mem_cons_self (by kernel_rfl) (by kernel_rfl) (by kernel_rfl) (by kernel_rfl) (fun _ _ _ h => h) (Or.inl ⟨by rfl, ?_⟩) hHeld (fun hHeld => ?_)
            rotate_left
            · (intro w hSw; (try dsimp only at hSw); (try simp only [List.getElem_toArray, List.getElem_cons_succ, List.getElem_cons_zero]); go_simp; try with_reducible rfl)
            try simp only [List.getElem_toArray, List.getElem_cons_succ, List.getElem_cons_zero, Act.put, List.setIfInBounds_toArray, List.set_cons_zero, List.set_cons_succ]
            refine wpAnyE_take (i := 10) (v := ?_) rfl (by kernel_rfl) (by kernel_rfl) (by kernel_rfl) (by kernel_rfl) (fun _ _ _ h => h) (Or.inl ⟨by rfl, ?_⟩) hHeld (fun hHeld => ?_)
            rotate_left
            · (intro w hSw; (try dsimp only at hSw); (try simp only [List.getElem_toArray, List.getElem_cons_succ, List.getElem_cons_zero]); go_simp; try with_reducible rfl)
            try simp only [List.getElem_toArray, List.getElem_cons_succ, List.getElem_cons_zero, Act.put, List.setIfInBounds_toArray, List.set_cons_zero, List.set_cons_succ]
            refine wpAnyE_take (i := 11) (v := ?_) rfl (by kernel_rfl) (by kernel_rfl) (by kernel_rfl) (by kernel_rfl) (fun _ _ _ h => h) (Or.inl ⟨by rfl, ?_⟩) hHeld (fun hHeld => ?_)
            rotate_left
            · (intro w hSw; (try dsimp only at hSw); (try simp only [List.getElem_toArray, List.getElem_cons_succ, List.getElem_cons_zero]); go_simp; try with_reducible rfl)
            try simp only [List.getElem_toArray, List.getElem_cons_succ, List.getElem_cons_zero, Act.put, List.setIfInBounds_toArray, List.set_cons_zero, List.set_cons_succ]
            refine wpAnyE_take (i := 12) (v := ?_) rfl (by kernel_rfl) (by kernel_rfl) (by kernel_rfl) (by kernel_rfl) (fun _ _ _ h => h) (Or.inl ⟨by rfl, ?_⟩) hHeld (fun hHeld => ?_)
            rotate_left
            · (intro w hSw; (try dsimp only at hSw); (try simp only [List.getElem_toArray, List.getElem_cons_succ, List.getElem_cons_zero]); go_simp; try with_reducible rfl)
            try simp only [List.getElem_toArray, List.getElem_cons_succ, List.getElem_cons_zero, Act.put, List.setIfInBounds_toArray, List.set_cons_zero, List.set_cons_succ]
            refine wpAnyE_load (i := 13) _ _ (v := ?_) rfl (by kernel_rfl) (List.mem_cons_of_mem _ List.mem_cons_self) (by kernel_rfl) (by kernel_rfl) (by kernel_rfl) (by kernel_rfl) (fun _ _ _ h => h) (Or.inl ⟨by rfl, ?_⟩) hHeld (fun hHeld => ?_)
            rotate_left
            · (intro w hSw; (try dsimp only at hSw); (try simp only [List.getElem_toArray, List.getElem_cons_succ, List.getElem_cons_zero]); go_simp; try with_reducible rfl)
            try simp only [List.getElem_toArray, List.getElem_cons_succ, List.getElem_cons_zero, Act.put, List.setIfInBounds_toArray, List.set_cons_zero, List.set_cons_succ]
            refine wpAnyE_take (i := 14) (v := ?_) rfl (by kernel_rfl) (by kernel_rfl) (by kernel_rfl) (by kernel_rfl) (fun _ _ _ h => h) (Or.inl ⟨by rfl, ?_⟩) hHeld (fun hHeld => ?_)
            rotate_left
            · (intro w hSw; (try dsimp only at hSw); (try simp only [List.getElem_toArray, List.getElem_cons_succ, List.getElem_cons_zero]); go_simp; try with_reducible rfl)
            try simp only [List.getElem_toArray, List.getElem_cons_succ, List.getElem_cons_zero, Act.put, List.setIfInBounds_toArray, List.set_cons_zero, List.set_cons_succ]
            refine wpAnyE_ready (rs := [15]) (by kernel_rfl) (by simp) (AllE.cons rfl (fun K hK => ?_) AllE.nil)
            clear hHeld
            go_simp
            refine hK.out _ _ ⟨(fun e => absurd e (Bool.eq_false_iff.1 (by kernel_rfl))), (fun e => absurd e (Bool.eq_false_iff.1 (by kernel_rfl))), trivial⟩ (fun hHeld => ?_)
            clear hK K
            try simp only [List.getElem_toArray, List.getElem_cons_succ, List.getElem_cons_zero, Act.put, List.setIfInBounds_toArray, List.set_cons_zero, List.set_cons_succ]
            clear c0 c1 c2 c3 d0 d1 d2 d3 f0 f1 f2 f3 k0 k1 k2 k3
            obtain ⟨W2, hW2⟩ : ∃ W2, (set4 W g m ⟨au, av, ax, ac⟩).drew = W2 := ⟨_, rfl⟩
            have HH := Lib.hid (hW2 ▸ HKW.out.half HL.out hBg HP.out HMP.out)
            unfold set4 at hW2
            simp only at hW2
            try rw [hW2] at hHeld ⊢
            obtain ⟨d0, d1, d2, d3, k0, k1, k2, k3⟩ := row_item (w := W2) HH.out.row (HH.out.at_ HP.out)
            simp only at d0 d1 d2 d3
            refine wpAnyE_take (i := 16) (v := ?_) rfl (by kernel_rfl) (by kernel_rfl) (by kernel_rfl) (by kernel_rfl) (fun _ _ _ h => h) (Or.inl ⟨by rfl, ?_⟩) hHeld (fun hHeld => ?_)
            rotate_left
            · (intro w hSw; (try dsimp only at hSw); (try simp only [List.getElem_toArray, List.getElem_cons_succ, List.getElem_cons_zero]); go_simp; try with_reducible rfl)
            try simp only [List.getElem_toArray, List.getElem_cons_succ, List.getElem_cons_zero, Act.put, List.setIfInBounds_toArray, List.set_cons_zero, List.set_cons_succ]
            refine wpAnyE_ready (rs := [17]) (by kernel_rfl) (by simp) (AllE.cons rfl (fun K hK => ?_) AllE.nil)
            clear hHeld
            go_simp
            refine hK.out _ _ ⟨(fun e => absurd e (Bool.eq_false_iff.1 (by kernel_rfl))), (fun e => absurd e (Bool.eq_false_iff.1 (by kernel_rfl))), trivial⟩ (fun hHeld => ?_)
            clear hK K
            try simp only [List.getElem_toArray, List.getElem_cons_succ, List.getElem_cons_zero, Act.put, List.setIfInBounds_toArray, List.set_cons_zero, List.set_cons_succ]
            refine wpAnyE_done (by kernel_rfl) (only_normal ?_) _
            have HS := Lib.hid (HH.out.full HL.out hBg HBE.out HP.out)
            go_wp2
            go_roundw
            case rel => exact ⟨p, A', _ :: Bl, T, _, by go_num, HP.out, HS.out⟩
            case measure => have := HMP.out; simp [intOf]; omega
          · have v1 : decide (xv < av) = false := decide_eq_false hv
            by_cases he : xv = av
            · subst he
              have v2 : (xv == xv) = true := by simp
              cases hk : klt xu au with
              | true =>
                have v3 : Op.bytesLess xu.toList au.toList = true := hk
                have HBE := Lib.hid (show bef ⟨xu, xv, xx, xc⟩ ⟨au, xv, ax, ac⟩ = true by unfold bef; simp only; rw [hk]; simp)
                go_wp2_with fail
                go_quiet (fail)
                go_wp2_with fail
                obtain ⟨W, hW⟩ : ∃ W, wr.drewN nq = W := ⟨_, rfl⟩
                have HKW := Lib.hid (hW ▸ HK2.out.drewN nq)
                rw [hW]
                clear c0 c1 c2 c3 d0 d1 d2 d3 f0 f1 f2 f3 k0 k1 k2 k3
                obtain ⟨c0, c1, c2, c3, f0, f1, f2, f3⟩ := row_item (w := W) HKW.out.row (j := m) (x := ⟨xu, xv, xx, xc⟩) HJ.out.1
                obtain ⟨d0, d1, d2, d3, k0, k1, k2, k3⟩ := row_item (w := W) HKW.out.row (j := p) (x := ⟨au, xv, ax, ac⟩) HJ.out.2
                simp only at c0 c1 c2 c3 d0 d1 d2 d3
                refine wp_region_E [([15], fun w' => w'.cell? ⟨g, p * 4, none⟩ = some (.string au) ∧ w'.cell? ⟨g, p * 4 + 1, none⟩ = some (.int .i64 xv) ∧ w'.cell? ⟨g, p * 4 + 2, none⟩ = some (.bool ax) ∧ w'.cell? ⟨g, p * 4 + 3, none⟩ = some (.string ac)), ([15], fun w' => w'.cell? ⟨g, m * 4, none⟩ = some (.string xu) ∧ w'.cell? ⟨g, m * 4 + 1, none⟩ = some (.int .i64 xv) ∧ w'.cell? ⟨g, m * 4 + 2, none⟩ = some (.bool xx) ∧ w'.cell? ⟨g, m * 4 + 3, none⟩ = some (.string xc))] (by kernel_rfl) ⟨fun _ => ⟨d0, d1, d2, d3⟩, fun _ => ⟨c0, c1, c2, c3⟩, trivial⟩ (fun hHeld => ?_)
                refine wpAnyE_take (i := 0) (v := ?_) rfl (by kernel_rfl) (by kernel_rfl) (by kernel_rfl) (by kernel_rfl) (fun _ _ _ h => h) (Or.inl ⟨by rfl, ?_⟩) hHeld (fun hHeld => ?_)
                rotate_left
                · (intro w hSw; (try dsimp only at hSw); (try simp only [List.getElem_toArray, List.getElem_cons_succ, List.getElem_cons_zero]); go_simp; try with_reducible rfl)
                try simp only [List.getElem_toArray, List.getElem_cons_succ, List.getElem_cons_zero, Act.put, List.setIfInBounds_toArray, List.set_cons_zero, List.set_cons_succ]
                refine wpAnyE_take (i := 1) (v := ?_) rfl (by kernel_rfl) (by kernel_rfl) (by kernel_rfl) (by kernel_rfl) (fun _ _ _ h => h) (Or.inl ⟨by rfl, ?_⟩) hHeld (fun hHeld => ?_)
                rotate_left
                · (intro w hSw; (try dsimp only at hSw); (try simp only [List.getElem_toArray, List.getElem_cons_succ, List.getElem_cons_zero]); go_simp; try with_reducible rfl)
                try simp only [List.getElem_toArray, List.getElem_cons_succ, List.getElem_cons_zero, Act.put, List.setIfInBounds_toArray, List.set_cons_zero, List.set_cons_succ]
                refine wpAnyE_take (i := 2) (v := ?_) rfl (by kernel_rfl) (by kernel_rfl) (by kernel_rfl) (by kernel_rfl) (fun _ _ _ h => h) (Or.inl ⟨by rfl, ?_⟩) hHeld (fun hHeld => ?_)
                rotate_left
                · (intro w hSw; (try dsimp only at hSw); (try simp only [List.getElem_toArray, List.getElem_cons_succ, List.getElem_cons_zero]); go_simp; try with_reducible rfl)
                try simp only [List.getElem_toArray, List.getElem_cons_succ, List.getElem_cons_zero, Act.put, List.setIfInBounds_toArray, List.set_cons_zero, List.set_cons_succ]
                refine wpAnyE_take (i := 3) (v := ?_) rfl (by kernel_rfl) (by kernel_rfl) (by kernel_rfl) (by kernel_rfl) (fun _ _ _ h => h) (Or.inl ⟨by rfl, ?_⟩) hHeld (fun hHeld => ?_)
                rotate_left
                · (intro w hSw; (try dsimp only at hSw); (try simp only [List.getElem_toArray, List.getElem_cons_succ, List.getElem_cons_zero]); go_simp; try with_reducible rfl)
                try simp only [List.getElem_toArray, List.getElem_cons_succ, List.getElem_cons_zero, Act.put, List.setIfInBounds_toArray, List.set_cons_zero, List.set_cons_succ]
                refine wpAnyE_take (i := 4) (v := ?_) rfl (by kernel_rfl) (by kernel_rfl) (by kernel_rfl) (by kernel_rfl) (fun _ _ _ h => h) (Or.inl ⟨by rfl, ?_⟩) hHeld (fun hHeld => ?_)
                rotate_left
                · (intro w hSw; (try dsimp only at hSw); (try simp only [List.getElem_toArray, List.getElem_cons_succ, List.getElem_cons_zero]); go_simp; try with_reducible rfl)
                try simp only [List.getElem_toArray, List.getElem_cons_succ, List.getElem_cons_zero, Act.put, List.setIfInBounds_toArray, List.set_cons_zero, List.set_cons_succ]
                refine wpAnyE_take (i := 5) (v := ?_) rfl (by kernel_rfl) (by kernel_rfl) (by kernel_rfl) (by kernel_rfl) (fun _ _ _ h => h) (Or.inl ⟨by rfl, ?_⟩) hHeld (fun hHeld => ?_)
                rotate_left
                · (intro w hSw; (try dsimp only at hSw); (try simp only [List.getElem_toArray, List.getElem_cons_succ, List.getElem_cons_zero]); go_simp; try with_reducible rfl)
                try simp only [List.getElem_toArray, List.getElem_cons_succ, List.getElem_cons_zero, Act.put, List.setIfInBounds_toArray, List.set_cons_zero, List.set_cons_succ]
                refine wpAnyE_take (i := 6) (v := ?_) rfl (by kernel_rfl) (by kernel_rfl) (by kernel_rfl) (by kernel_rfl) (fun _ _ _ h => h) (Or.inl ⟨by rfl, ?_⟩) hHeld (fun hHeld => ?_)
                rotate_left
                · (intro w hSw; (try dsimp only at hSw); (try simp only [List.getElem_toArray, List.getElem_cons_succ, List.getElem_cons_zero]); go_simp; try with_reducible rfl)
                try simp only [List.getElem_toArray, List.getElem_cons_succ, List.getElem_cons_zero, Act.put, List.setIfInBounds_toArray, List.set_cons_zero, List.set_cons_succ]
                refine wpAnyE_take (i := 7) (v := ?_) rfl (by kernel_rfl) (by kernel_rfl) (by kernel_rfl) (by kernel_rfl) (fun _ _ _ h => h) (Or.inl ⟨by rfl, ?_⟩) hHeld (fun hHeld => ?_)
                rotate_left
                · (intro w hSw; (try dsimp only at hSw); (try simp only [List.getElem_toArray, List.getElem_cons_succ, List.getElem_cons_zero]); go_simp; try with_reducible rfl)
                try simp only [List.getElem_toArray, List.getElem_cons_succ, List.getElem_cons_zero, Act.put, List.setIfInBounds_toArray, List.set_cons_zero, List.set_cons_succ]
                refine wpAnyE_take (i := 8) (v := ?_) rfl (by kernel_rfl) (by kernel_rfl) (by kernel_rfl) (by kernel_rfl) (fun _ _ _ h => h) (Or.inl ⟨by rfl, ?_⟩) hHeld (fun hHeld => ?_)
                rotate_left
                · (intro w hSw; (try dsimp only at hSw); (try simp only [List.getElem_toArray, List.getElem_cons_succ, List.getElem_cons_zero]); go_simp; try with_reducible rfl)
                try simp only [List.getElem_toArray, List.getElem_cons_succ, List.getElem_cons_zero, Act.put, List.setIfInBounds_toArray, List.set_cons_zero, List.set_cons_succ]
                refine wpAnyE_load (i := 9) _ _ (v := ?_) rfl (by kernel_rfl) List.mem_cons_self (by kernel_rfl) (by kernel_rfl) (by kernel_rfl) (by kernel_rfl) (fun _ _ _ h => h) (Or.inl ⟨by rfl, ?_⟩) hHeld (fun hHeld => ?_)
                rotate_left
                · (intro w hSw; (try dsimp only at hSw); (try simp only [List.getElem_toArray, List.getElem_cons_succ, List.getElem_cons_zero]); go_simp; try with_reducible rfl)
                try simp only [List.getElem_toArray, List.getElem_cons_succ, List.getElem_cons_zero, Act.put, List.setIfInBounds_toArray, List.set_cons_zero, List.set_cons_succ]
                refine wpAnyE_take (i := 10) (v := ?_) rfl (by kernel_rfl) (by kernel_rfl) (by kernel_rfl) (by kernel_rfl) (fun _ _ _ h => h) (Or.inl ⟨by rfl, ?_⟩) hHeld (fun hHeld => ?_)
                rotate_left
                · (intro w hSw; (try dsimp only at hSw); (try simp only [List.getElem_toArray, List.getElem_cons_succ, List.getElem_cons_zero]); go_simp; try with_reducible rfl)
                try simp only [List.getElem_toArray, List.getElem_cons_succ, List.getElem_cons_zero, Act.put, List.setIfInBounds_toArray, List.set_cons_zero, List.set_cons_succ]
                refine wpAnyE_take (i := 11) (v := ?_) rfl (by kernel_rfl) (by kernel_rfl) (by kernel_rfl) (by kernel_rfl) (fun _ _ _ h => h) (Or.inl ⟨by rfl, ?_⟩) hHeld (fun hHeld => ?_)
                rotate_left
                · (intro w hSw; (try dsimp only at hSw); (try simp only [List.getElem_toArray, List.getElem_cons_succ, List.getElem_cons_zero]); go_simp; try with_reducible rfl)
                try simp only [List.getElem_toArray, List.getElem_cons_succ, List.getElem_cons_zero, Act.put, List.setIfInBounds_toArray, List.set_cons_zero, List.set_cons_succ]
                refine wpAnyE_take (i := 12) (v := ?_) rfl (by kernel_rfl) (by kernel_rfl) (by kernel_rfl) (by kernel_rfl) (fun _ _ _ h => h) (Or.inl ⟨by rfl, ?_⟩) hHeld (fun hHeld => ?_)
                rotate_left
                · (intro w hSw; (try dsimp only at hSw); (try simp only [List.getElem_toArray, List.getElem_cons_succ, List.getElem_cons_zero]); go_simp; try with_reducible rfl)
                try simp only [List.getElem_toArray, List.getElem_cons_succ, List.getElem_cons_zero, Act.put, List.setIfInBounds_toArray, List.set_cons_zero, List.set_cons_succ]
                refine wpAnyE_load (i := 13) _ _ (v := ?_) rfl (by kernel_rfl) (List.mem_cons_of_mem _ List.mem_cons_self) (by kernel_rfl) (by kernel_rfl) (by kernel_rfl) (by kernel_rfl) (fun _ _ _ h => h) (Or.inl ⟨by rfl, ?_⟩) hHeld (fun hHeld => ?_)
                rotate_left
                · (intro w hSw; (try dsimp only at hSw); (try simp only [List.getElem_toArray, List.getElem_cons_succ, List.getElem_cons_zero]); go_simp; try with_reducible rfl)
                try simp only [List.getElem_toArray, List.getElem_cons_succ, List.getElem_cons_zero, Act.put, List.setIfInBounds_toArray, List.set_cons_zero, List.set_cons_succ]
                refine wpAnyE_take (i := 14) (v := ?_) rfl (by kernel_rfl) (by kernel_rfl) (by kernel_rfl) (by kernel_rfl) (fun _ _ _ h => h) (Or.inl ⟨by rfl, ?_⟩) hHeld (fun hHeld => ?_)
                rotate_left
                · (intro w hSw; (try dsimp only at hSw); (try simp only [List.getElem_toArray, List.getElem_cons_succ, List.getElem_cons_zero]); go_simp; try with_reducible rfl)
                try simp only [List.getElem_toArray, List.getElem_cons_succ, List.getElem_cons_zero, Act.put, List.setIfInBounds_toArray, List.set_cons_zero, List.set_cons_succ]
                refine wpAnyE_ready (rs := [15]) (by kernel_rfl) (by simp) (AllE.cons rfl (fun K hK => ?_) AllE.nil)
                clear hHeld
                go_simp
                refine hK.out _ _ ⟨(fun e => absurd e (Bool.eq_false_iff.1 (by kernel_rfl))), (fun e => absurd e (Bool.eq_false_iff.1 (by kernel_rfl))), trivial⟩ (fun hHeld => ?_)
                clear hK K
                try simp only [List.getElem_toArray, List.getElem_cons_succ, List.getElem_cons_zero, Act.put, List.setIfInBounds_toArray, List.set_cons_zero, List.set_cons_succ]
                clear c0 c1 c2 c3 d0 d1 d2 d3 f0 f1 f2 f3 k0 k1 k2 k3
                obtain ⟨W2, hW2⟩ : ∃ W2, (set4 W g m ⟨au, xv, ax, ac⟩).drew = W2 := ⟨_, rfl⟩
                have HH := Lib.hid (hW2 ▸ HKW.out.half HL.out hBg HP.out HMP.out)
                unfold set4 at hW2
                simp only at hW2
                try rw [hW2] at hHeld ⊢
                obtain ⟨d0, d1, d2, d3, k0, k1, k2, k3⟩ := row_item (w := W2) HH.out.row (HH.out.at_ HP.out)
                simp only at d0 d1 d2 d3
                refine wpAnyE_take (i := 16) (v := ?_) rfl (by kernel_rfl) (by kernel_rfl) (by kernel_rfl) (by kernel_rfl) (fun _ _ _ h => h) (Or.inl ⟨by rfl, ?_⟩) hHeld (fun hHeld => ?_)
                rotate_left
                · (intro w hSw; (try dsimp only at hSw); (try simp only [List.getElem_toArray, List.getElem_cons_succ, List.getElem_cons_zero]); go_simp; try with_reducible rfl)
                try simp only [List.getElem_toArray, List.getElem_cons_succ, List.getElem_cons_zero, Act.put, List.setIfInBounds_toArray, List.set_cons_zero, List.set_cons_succ]
                refine wpAnyE_ready (rs := [17]) (by kernel_rfl) (by simp) (AllE.cons rfl (fun K hK => ?_) AllE.nil)
                clear hHeld
                go_simp
                refine hK.out _ _ ⟨(fun e => absurd e (Bool.eq_false_iff.1 (by kernel_rfl))), (fun e => absurd e (Bool.eq_false_iff.1 (by kernel_rfl))), trivial⟩ (fun hHeld => ?_)
                clear hK K
                try simp only [List.getElem_toArray, List.getElem_cons_succ, List.getElem_cons_zero, Act.put, List.setIfInBounds_toArray, List.set_cons_zero, List.set_cons_succ]
                refine wpAnyE_done (by kernel_rfl) (only_normal ?_) _
                have HS := Lib.hid (HH.out.full HL.out hBg HBE.out HP.out)
                go_wp2
                go_roundw
                case rel => exact ⟨p, A', _ :: Bl, T, _, by go_num, HP.out, HS.out⟩
                case measure => have := HMP.out; simp [intOf]; omega
              | false =>
                have v3 : Op.bytesLess xu.toList au.toList = false := hk
                have HD := Lib.hid (HK2.out.done (fun b hb => by simp at hb; subst hb; unfold bef; simp only; rw [v1, hk]; simp))
                go_wp2_with fail
                go_quiet (fail)
                go_wp2
                obtain ⟨cur2, e1, e2, e3, e4⟩ := HD.out
                go_roundw
                case rel => exact ⟨q + 1, cur2, by omega, by go_num, own_keep e1 (fun _ _ => rfl), e2, e3, below_drewN e4 _⟩
                case measure => simp [intOf]; omega
            · have v2 : (xv == av) = false := by simpa using he
              have HD := Lib.hid (HK2.out.done (fun b hb => by simp at hb; subst hb; unfold bef; simp only; rw [v1, decide_eq_false he]; rfl))
              go_wp2_with fail
              go_quiet (fail)
              go_wp2
              obtain ⟨cur2, e1, e2, e3, e4⟩ := HD.out
              go_roundw
              case rel => exact ⟨q + 1, cur2, by omega, by go_num, own_keep e1 (fun _ _ => rfl), e2, e3, below_drewN e4 _⟩
              case measure => simp [intOf]; omega
    · obtain ⟨q, rfl⟩ : ∃ j, q = j := ⟨_, rfl⟩
      have hqn : ¬ (q : Int) < (n : Int) := by omega
      have HT := Lib.hid (show RiL cur by have := HC.out.2.2.1; rwa [List.take_of_length_le (by omega)] at this)
      go_wp2
      go_ret
      exact ⟨rfl, cur, HC.out.2.1, HT.out, HC.out.1, HC.out.2.2.2⟩
end Go.Proofs.Ythcjbljkokflgaa
