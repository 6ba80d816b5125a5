/- Answers: what is encoded is decoded as it was, and the other way about. -/
import Derived.Test.YtdoldjfabgcgbaaNb
namespace Go.Proofs.Ytdoldjfabgcgbaa
set_option linter.unusedVariables false
set_option linter.unusedSimpArgs false
/-- What is read, where the reader stands behind it, and whether a number was too great. -/
def decQ (l : List UInt8) : Rp × Ps × Bool :=
  let a1 := belowP 2147483647 l ⟨0, 0⟩ false
  let a2 := numP l a1.2.1
  let a3 := numP l a2.2
  let a4 := textP 20000 l a3.2
  let a5 := belowP 2147483647 l a4.2 a1.2.2
  let a6 := markP l a5.2.1 a5.2.2
  let a7 := itsR l a6.2.1 a6.2.2
  (⟨a1.1, a2.1, a3.1, a4.1, a5.1, a6.1, a7.1⟩, a7.2.1, a7.2.2)
theorem decP_Q (l : List UInt8) : decP l = ((decQ l).1, doneP l.length (decQ l).2.1 (decQ l).2.2) := by simp only [decP, decQ]
def bytesRp (r : Rp) : List UInt8 := bytesR r.e r.tok r.ver r.card r.idx r.more r.xs
structure GdI (t : It) : Prop where
  u : t.u.size ≤ 20000
  v0 : 0 ≤ t.v
  v : t.v < 9223372036854775808
  c : t.c.size ≤ 20000
structure Gd (r : Rp) : Prop where
  e0 : 0 ≤ r.e
  e : r.e ≤ 2147483647
  t0 : 0 ≤ r.tok
  t : r.tok < 9223372036854775808
  v0 : 0 ≤ r.ver
  v : r.ver < 9223372036854775808
  c : r.card.size ≤ 20000
  i0 : 0 ≤ r.idx
  i : r.idx ≤ 2147483647
  n : r.xs.length ≤ 2147483647
  xs : ∀ t ∈ r.xs, GdI t
section
variable {l R : List UInt8} {p : Nat}
theorem drop_step {a : List UInt8} (h : l.drop p = a ++ R) : l.drop (p + a.length) = R := by
  rw [← List.drop_drop, h, List.drop_left]
theorem numP_enc {n : Int} (h : l.drop p = encz n ++ R) (h0 : 0 ≤ n) (h1 : n < 9223372036854775808) : numP l ⟨p, 0⟩ = (n, ⟨p + (encz n).length, 0⟩) := by
  have he : encz n = enc n.toNat := by unfold encz; rw [if_neg (by omega)]
  have hr : rt (l.drop p) = (n.toNat, (enc n.toNat).length, 0) := by rw [h, he]; exact rt_enc _ (by omega) _
  unfold numP
  rw [if_neg (by simp)]
  simp only [hr]
  rw [if_pos trivial, he, Int.toNat_of_nonneg h0]
theorem textP_enc {t : ByteArray} (h : l.drop p = enct t ++ R) (hs : t.size ≤ 20000) : textP 20000 l ⟨p, 0⟩ = (t, ⟨p + (enct t).length, 0⟩) := by
  have hl : t.data.toList.length = t.size := Array.length_toList
  have h' : l.drop p = enc t.size ++ (t.data.toList ++ R) := by rw [h]; unfold enct; rw [List.append_assoc]
  have hr : rt (l.drop p) = (t.size, (enc t.size).length, 0) := by rw [h']; exact rt_enc _ (by omega) _
  have hd : l.drop (p + (enc t.size).length) = t.data.toList ++ R := drop_step h'
  have hlen : t.size ≤ l.length - (p + (enc t.size).length) := by rw [← List.length_drop, hd, List.length_append]; omega
  have hz : l.length < p + (enc t.size).length + t.size → False := by
    intro hh
    rcases Nat.eq_zero_or_pos t.size with hz | hz
    · have h3 := congrArg List.length h'
      rw [List.length_drop, List.length_append] at h3
      have h4 : 1 ≤ (enc t.size).length := (rt_ok hr).2.1
      omega
    · omega
  unfold textP
  rw [if_neg (by simp)]
  simp only [hr]
  rw [if_neg (by simp), if_neg (fun hh => hz hh), if_neg (by omega), hd, List.take_left' hl]
  unfold enct
  rw [List.length_append, hl, Nat.add_assoc]
theorem belowP_enc {n : Int} {m : Nat} {x : Bool} (h : l.drop p = encz n ++ R) (h0 : 0 ≤ n) (h1 : n ≤ m) (hm : m ≤ 2147483647) : belowP m l ⟨p, 0⟩ x = (n, ⟨p + (encz n).length, 0⟩, x) := by
  unfold belowP
  rw [numP_enc h h0 (by omega), if_neg (by omega)]
theorem markP_enc {b x : Bool} (h : l.drop p = encz (b01 b) ++ R) : markP l ⟨p, 0⟩ x = (b, ⟨p + (encz (b01 b)).length, 0⟩, x) := by
  unfold markP
  rw [belowP_enc (m := 1) h (by cases b <;> decide) (by cases b <;> decide) (by decide)]
  cases b <;> rfl
theorem itP_enc {t : It} {x : Bool} (h : l.drop p = itB t ++ R) (g : GdI t) : itP l ⟨p, 0⟩ x = (t, ⟨p + (itB t).length, 0⟩, x) := by
  have h1 : l.drop p = enct t.u ++ (encz t.v ++ (encz (b01 t.x) ++ (enct t.c ++ R))) := by rw [h]; unfold itB encI; simp
  have h2 := drop_step h1
  have h3 := drop_step h2
  have h4 := drop_step h3
  unfold itP
  rw [textP_enc h1 g.u]
  simp only
  rw [numP_enc h2 g.v0 g.v]
  simp only
  rw [markP_enc h3]
  simp only
  rw [textP_enc h4 g.c]
  simp only
  have : (itB t).length = (enct t.u).length + (encz t.v).length + (encz (b01 t.x)).length + (enct t.c).length := by unfold itB encI; simp only [List.length_append]
  rw [this]
  simp only [Nat.add_assoc]
theorem itsP_enc : ∀ (xs : List It) (p : Nat), l.drop p = itsB xs ++ R → (∀ t ∈ xs, GdI t) → itsP xs.length l ⟨p, 0⟩ false = (xs, ⟨p + (itsB xs).length, 0⟩, false)
  | [], p, h, _ => by simp [itsP, itsB]
  | t :: xs, p, h, g => by
    have e : itsB (t :: xs) = itB t ++ itsB xs := by unfold itsB; simp
    have h1 : l.drop p = itB t ++ (itsB xs ++ R) := by rw [h, e, List.append_assoc]
    have h2 := itsP_enc xs (p + (itB t).length) (drop_step h1) (fun s hs => g s (List.mem_cons_of_mem _ hs))
    show itsP (xs.length + 1) l ⟨p, 0⟩ false = _
    unfold itsP
    rw [if_neg (by simp), itP_enc h1 (g t List.mem_cons_self)]
    simp only
    rw [h2]
    simp only
    rw [e, List.length_append, Nat.add_assoc]
theorem decQ_enc (r : Rp) (g : Gd r) (R : List UInt8) : decQ (bytesRp r ++ R) = (r, ⟨(bytesRp r).length, 0⟩, false) := by
  have h1 : (bytesRp r ++ R).drop 0 = encz r.e ++ (encz r.tok ++ (encz r.ver ++ (enct r.card ++ (encz r.idx ++ (encz (b01 r.more) ++ (encz (r.xs.length : Int) ++ (itsB r.xs ++ R))))))) := by
    rw [List.drop_zero]; unfold bytesRp bytesR headB; simp only [List.append_assoc]
  have hlen : (bytesRp r).length = 0 + (encz r.e).length + (encz r.tok).length + (encz r.ver).length + (enct r.card).length + (encz r.idx).length + (encz (b01 r.more)).length + (encz (r.xs.length : Int)).length + (itsB r.xs).length := by
    unfold bytesRp bytesR headB; simp only [List.length_append]; omega
  obtain ⟨l, hl⟩ : ∃ l, bytesRp r ++ R = l := ⟨_, rfl⟩
  rw [hl] at h1 ⊢
  have h2 := drop_step h1
  have h3 := drop_step h2
  have h4 := drop_step h3
  have h5 := drop_step h4
  have h6 := drop_step h5
  have h7 := drop_step h6
  have h8 := drop_step h7
  unfold decQ
  simp only
  rw [belowP_enc h1 g.e0 g.e (by decide)]
  simp only
  rw [numP_enc h2 g.t0 g.t]
  simp only
  rw [numP_enc h3 g.v0 g.v]
  simp only
  rw [textP_enc h4 g.c]
  simp only
  rw [belowP_enc h5 g.i0 g.i (by decide)]
  simp only
  rw [markP_enc h6]
  simp only
  unfold itsR
  rw [belowP_enc h7 (by omega) (by have := g.n; omega) (by decide)]
  simp only [Int.toNat_natCast]
  rw [itsP_enc r.xs _ h8 g.xs]
  simp only
  rw [hlen]
end
section
variable {l : List UInt8} {q : Ps} {x : Bool}
theorem numP_nat (l : List UInt8) (q : Ps) : 0 ≤ (numP l q).1 := by
  unfold numP
  split
  · exact Int.le_refl _
  · split
    · exact Int.natCast_nonneg _
    · exact Int.le_refl _
theorem numP_dec (h : (numP l q).2.e = 0) : q.e = 0 ∧ l.take (numP l q).2.p = l.take q.p ++ encz (numP l q).1 := by
  unfold numP at h ⊢
  split
  · rename_i h1; rw [if_pos h1] at h; exact absurd h h1
  · rename_i h1
    rw [if_neg h1] at h
    split
    · rename_i h2
      have h3 := rt_ok (l := l.drop q.p) (n := (rt (l.drop q.p)).1) (k := (rt (l.drop q.p)).2.1) (by rw [← h2])
      refine ⟨by simpa using h1, ?_⟩
      show l.take (q.p + (rt (l.drop q.p)).2.1) = _
      rw [List.take_add, ← h3.1]
      congr 1
    · rename_i h2; rw [if_neg h2] at h; exact absurd h h2
theorem textP_dec (h : (textP 20000 l q).2.e = 0) : q.e = 0 ∧ l.take (textP 20000 l q).2.p = l.take q.p ++ enct (textP 20000 l q).1 ∧ (textP 20000 l q).1.size ≤ 20000 := by
  unfold textP at h ⊢
  split
  · rename_i h1; rw [if_pos h1] at h; exact absurd h h1
  · rename_i h1
    rw [if_neg h1] at h
    split
    · rename_i h2; rw [if_pos h2] at h; exact absurd h h2
    · rename_i h2
      rw [if_neg h2] at h
      split
      · rename_i h3; rw [if_pos h3] at h; exact absurd h (show ¬ (14 : Int) = 0 by decide)
      · rename_i h3
        rw [if_neg h3] at h
        split
        · rename_i h4; rw [if_pos h4] at h; exact absurd h (show ¬ (2 : Int) = 0 by decide)
        · rename_i h4
          have h2' : (rt (l.drop q.p)).2.2 = 0 := by simpa using h2
          have h5 := rt_ok (l := l.drop q.p) (n := (rt (l.drop q.p)).1) (k := (rt (l.drop q.p)).2.1) (by rw [← h2'])
          have hsz : (⟨((l.drop (q.p + (rt (l.drop q.p)).2.1)).take (rt (l.drop q.p)).1).toArray⟩ : ByteArray).size = (rt (l.drop q.p)).1 := by
            show Array.size _ = _
            rw [List.size_toArray, List.length_take, List.length_drop]
            omega
          refine ⟨by simpa using h1, ?_, by show (⟨_⟩ : ByteArray).size ≤ 20000; rw [hsz]; omega⟩
          show l.take (q.p + (rt (l.drop q.p)).2.1 + (rt (l.drop q.p)).1) = l.take q.p ++ enct _
          rw [List.take_add, List.take_add, ← h5.1]
          unfold enct
          rw [hsz, List.append_assoc]
theorem belowP_dec {m : Nat} (h : (belowP m l q x).2.1.e = 0) (hx : (belowP m l q x).2.2 = false) : q.e = 0 ∧ x = false ∧ l.take (belowP m l q x).2.1.p = l.take q.p ++ encz (belowP m l q x).1 := by
  unfold belowP at h hx ⊢
  split
  · rename_i h1; rw [if_pos h1] at hx; cases hx
  · rename_i h1
    rw [if_neg h1] at h hx
    exact ⟨(numP_dec h).1, hx, (numP_dec h).2⟩
theorem markP_dec (h : (markP l q x).2.1.e = 0) (hx : (markP l q x).2.2 = false) : q.e = 0 ∧ x = false ∧ l.take (markP l q x).2.1.p = l.take q.p ++ encz (b01 (markP l q x).1) := by
  have h1 := belowP_dec (m := 1) h hx
  refine ⟨h1.1, h1.2.1, ?_⟩
  have h2 := belowP_nat 1 l q x
  have h3 : b01 (markP l q x).1 = (belowP 1 l q x).1 := by
    show b01 ((belowP 1 l q x).1 == 1) = _
    have : (belowP 1 l q x).1 = 0 ∨ (belowP 1 l q x).1 = 1 := by omega
    rcases this with e | e <;> rw [e] <;> rfl
  rw [h3]
  exact h1.2.2
theorem itP_dec (h : (itP l q x).2.1.e = 0) (hx : (itP l q x).2.2 = false) : q.e = 0 ∧ x = false ∧ l.take (itP l q x).2.1.p = l.take q.p ++ itB (itP l q x).1 ∧ GdI (itP l q x).1 := by
  unfold itP at h hx ⊢
  simp only at h hx ⊢
  have h4 := textP_dec h
  have h3 := markP_dec h4.1 hx
  have h2 := numP_dec h3.1
  have h1 := textP_dec h2.1
  refine ⟨h1.1, h3.2.1, ?_, ⟨h1.2.2, numP_nat _ _, numP_lt _ _, h4.2.2⟩⟩
  rw [h4.2.1, h3.2.2, h2.2, h1.2.1]
  unfold itB encI
  simp only [List.append_assoc]
theorem itsP_dec (l : List UInt8) : ∀ (n : Nat) (q : Ps) (x : Bool), (itsP n l q x).2.1.e = 0 → (itsP n l q x).2.2 = false → q.e = 0 ∧ x = false ∧ l.take (itsP n l q x).2.1.p = l.take q.p ++ itsB (itsP n l q x).1 ∧ (itsP n l q x).1.length = n ∧ ∀ t ∈ (itsP n l q x).1, GdI t
  | 0, q, x, h, hx => ⟨h, hx, by simp [itsP, itsB], rfl, fun t ht => by simp [itsP] at ht⟩
  | n + 1, q, x, h, hx => by
    unfold itsP at h hx ⊢
    by_cases he : q.e ≠ 0
    · rw [if_pos he] at h; exact absurd h he
    · rw [if_neg he] at h hx ⊢
      simp only at h hx ⊢
      have h2 := itsP_dec l n _ _ h hx
      have h1 := itP_dec h2.1 h2.2.1
      refine ⟨h1.1, h1.2.1, ?_, by rw [List.length_cons, h2.2.2.2.1], fun t ht => ?_⟩
      · rw [h2.2.2.1, h1.2.2.1]
        unfold itsB
        rw [List.map_cons, List.flatten_cons, List.append_assoc]
      · rcases List.mem_cons.1 ht with rfl | ht
        · exact h1.2.2.2
        · exact h2.2.2.2.2 t ht
theorem decQ_dec (l : List UInt8) (h : (decQ l).2.1.e = 0) (hx : (decQ l).2.2 = false) : l.take (decQ l).2.1.p = bytesRp (decQ l).1 ∧ Gd (decQ l).1 := by
  unfold decQ at h hx ⊢
  simp only at h hx ⊢
  unfold itsR at h hx ⊢
  have h8 := itsP_dec l _ _ _ h hx
  have h7 := belowP_dec h8.1 h8.2.1
  have h6 := markP_dec h7.1 h7.2.1
  have h5 := belowP_dec h6.1 h6.2.1
  have h4 := textP_dec h5.1
  have h3 := numP_dec h4.1
  have h2 := numP_dec h3.1
  have h1 := belowP_dec h2.1 h5.2.1
  refine ⟨?_, ?_⟩
  · unfold bytesRp bytesR headB
    simp only
    rw [h8.2.2.1, h7.2.2, h6.2.2, h5.2.2, h4.2.1, h3.2, h2.2, h1.2.2, h8.2.2.2.1, Int.toNat_of_nonneg (belowP_nat _ _ _ _).1]
    simp
  · exact ⟨(belowP_nat _ _ _ _).1, (belowP_nat _ _ _ _).2, numP_nat _ _, numP_lt _ _, numP_nat _ _, numP_lt _ _, h4.2.2, (belowP_nat _ _ _ _).1, (belowP_nat _ _ _ _).2, by
      show List.length _ ≤ 2147483647
      rw [h8.2.2.2.1]
      have := (belowP_nat 2147483647 l (markP l (belowP 2147483647 l (textP 20000 l (numP l (numP l (belowP 2147483647 l ⟨0, 0⟩ false).2.1).2).2).2 (belowP 2147483647 l ⟨0, 0⟩ false).2.2).2.1 (belowP 2147483647 l (textP 20000 l (numP l (numP l (belowP 2147483647 l ⟨0, 0⟩ false).2.1).2).2).2 (belowP 2147483647 l ⟨0, 0⟩ false).2.2).2.2).2.1 (markP l (belowP 2147483647 l (textP 20000 l (numP l (numP l (belowP 2147483647 l ⟨0, 0⟩ false).2.1).2).2).2 (belowP 2147483647 l ⟨0, 0⟩ false).2.2).2.1 (belowP 2147483647 l (textP 20000 l (numP l (numP l (belowP 2147483647 l ⟨0, 0⟩ false).2.1).2).2).2 (belowP 2147483647 l ⟨0, 0⟩ false).2.2).2.2).2.2).2
      omega, h8.2.2.2.2⟩
end
theorem decP_ok {l : List UInt8} (h : (decP l).2 = true) : bytesRp (decP l).1 = l ∧ Gd (decP l).1 := by
  rw [decP_Q] at h ⊢
  simp only at h ⊢
  unfold doneP at h
  simp only [Bool.and_eq_true, Bool.not_eq_true', beq_iff_eq, decide_eq_true_eq] at h
  obtain ⟨⟨hx, he⟩, hp⟩ := h
  have := decQ_dec l he hx
  rw [hp, List.take_length] at this
  exact ⟨this.1.symm, this.2⟩
theorem decP_enc (r : Rp) (g : Gd r) : decP (bytesRp r) = (r, true) := by
  have h := decQ_enc r g []
  rw [List.append_nil] at h
  rw [decP_Q, h]
  simp only
  congr 1
  unfold doneP
  simp
theorem decP_more (r : Rp) (g : Gd r) (c : UInt8) : (decP (bytesRp r ++ [c])).2 = false := by
  have h := decQ_enc r g [c]
  rw [decP_Q, h]
  simp only
  unfold doneP
  simp
theorem decP_cut (r : Rp) (g : Gd r) (m : Nat) (hm : m < (bytesRp r).length) : (decP ((bytesRp r).take m)).2 = false := by
  cases h : (decP ((bytesRp r).take m)).2 with
  | false => rfl
  | true =>
    exfalso
    obtain ⟨h1, h2⟩ := decP_ok h
    have h3 := decQ_enc _ h2 ((bytesRp r).drop m)
    rw [h1, List.take_append_drop] at h3
    have h4 := decQ_enc r g []
    rw [List.append_nil, h3] at h4
    have h5 := congrArg (fun z => z.2.1.p) h4
    simp only [List.length_take] at h5
    omega
theorem gd_of {k e tok ver idx : Int} {card : ByteArray} {more : Bool} {xs : List It} (h : checkR k e tok ver card idx more xs = 0) (ht : tok < 9223372036854775808) (hv : ver < 9223372036854775808) (hx : ∀ t ∈ xs, t.v < 9223372036854775808) : Gd ⟨e, tok, ver, card, idx, more, xs⟩ ∧ 0 ≤ k ∧ k ≤ 11 := by
  obtain ⟨h1, h2, h3⟩ := checkR_ok h
  obtain ⟨g1, g2⟩ := fine_of h2 hx
  unfold rangedB at h1
  simp only [Bool.and_eq_true, decide_eq_true_eq, List.all_eq_true] at h1
  obtain ⟨⟨⟨⟨⟨⟨⟨⟨⟨a1, a2⟩, a3⟩, a4⟩, a5⟩, a6⟩, a7⟩, a8⟩, a9⟩, a10⟩ := h1
  refine ⟨⟨a3, by show e ≤ _; omega, a5, ht, a6, hv, by show card.size ≤ _; omega, a7, a8, by show xs.length ≤ _; omega, fun t hm => ?_⟩, a1, a2⟩
  have h5 := g1 t hm
  have h6 := a10 t hm
  unfold nonneg at h6
  simp only [decide_eq_true_eq] at h6
  exact ⟨by have := h5.u; omega, h6, h5.v, by have := h5.c; omega⟩
end Go.Proofs.Ytdoldjfabgcgbaa
