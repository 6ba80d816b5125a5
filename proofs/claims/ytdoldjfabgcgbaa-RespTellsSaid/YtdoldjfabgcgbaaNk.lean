/- The reference's Decode as a function of the bytes; it is the code's. -/
import Derived.Test.YtdoldjfabgcgbaaNj
namespace Go.Proofs.Ytdoldjfabgcgbaa
set_option linter.unusedVariables false
set_option linter.unusedSimpArgs false
def smX (l : List UInt8) (q : Ps) : Int × Ps := (if 2147483647 < (numP l q).1 then 0 else (numP l q).1, ⟨(numP l q).2.p, if 2147483647 < (numP l q).1 then 1 else (numP l q).2.e⟩)
def mkX (l : List UInt8) (q : Ps) : Bool × Ps := ((numP l q).1 == 1, ⟨(numP l q).2.p, mkE (numP l q).1 (numP l q).2.e⟩)
def itX (l : List UInt8) (q : Ps) : It × Ps :=
  (⟨(textP 20000 l q).1, (numP l (textP 20000 l q).2).1, (mkX l (numP l (textP 20000 l q).2).2).1, (textP 20000 l (mkX l (numP l (textP 20000 l q).2).2).2).1⟩,
   (textP 20000 l (mkX l (numP l (textP 20000 l q).2).2).2).2)
def itsX : Nat → List UInt8 → Ps → List It × Ps
  | 0, _, q => ([], q)
  | n + 1, l, q => if q.e ≠ 0 then ([], q) else ((itX l q).1 :: (itsX n l (itX l q).2).1, (itsX n l (itX l q).2).2)
def refQ (l : List UInt8) : Rp × Ps :=
  let a1 := smX l ⟨0, 0⟩
  let a2 := numP l a1.2
  let a3 := numP l a2.2
  let a4 := textP 20000 l a3.2
  let a5 := smX l a4.2
  let a6 := mkX l a5.2
  let a7 := smX l a6.2
  let a8 := itsX a7.1.toNat l a7.2
  (⟨a1.1, a2.1, a3.1, a4.1, a5.1, a6.1, a8.1⟩, a8.2)
section
variable {l R : List UInt8} {p : Nat} {q : Ps}
theorem smX_enc {n : Int} (h : l.drop p = encz n ++ R) (h0 : 0 ≤ n) (h1 : n ≤ 2147483647) : smX l ⟨p, 0⟩ = (n, ⟨p + (encz n).length, 0⟩) := by
  unfold smX
  rw [numP_enc h h0 (by omega)]
  simp only
  rw [if_neg (by omega), if_neg (by omega)]
theorem mkX_enc {b : Bool} (h : l.drop p = encz (b01 b) ++ R) : mkX l ⟨p, 0⟩ = (b, ⟨p + (encz (b01 b)).length, 0⟩) := by
  unfold mkX mkE
  rw [numP_enc h (by cases b <;> decide) (by cases b <;> decide)]
  cases b <;> rfl
theorem itX_enc {t : It} (h : l.drop p = itB t ++ R) (g : GdI t) : itX l ⟨p, 0⟩ = (t, ⟨p + (itB t).length, 0⟩) := by
  have h1 : l.drop p = enct t.u ++ (encz t.v ++ (encz (b01 t.x) ++ (enct t.c ++ R))) := by rw [h]; unfold itB encI; simp
  have h2 := drop_step h1
  have h3 := drop_step h2
  have h4 := drop_step h3
  unfold itX
  rw [textP_enc h1 g.u]
  simp only
  rw [numP_enc h2 g.v0 g.v]
  simp only
  rw [mkX_enc h3]
  simp only
  rw [textP_enc h4 g.c]
  simp only
  have : (itB t).length = (enct t.u).length + (encz t.v).length + (encz (b01 t.x)).length + (enct t.c).length := by unfold itB encI; simp only [List.length_append]
  rw [this]
  simp only [Nat.add_assoc]
theorem itsX_enc : ∀ (xs : List It) (p : Nat), l.drop p = itsB xs ++ R → (∀ t ∈ xs, GdI t) → itsX xs.length l ⟨p, 0⟩ = (xs, ⟨p + (itsB xs).length, 0⟩)
  | [], p, h, _ => by simp [itsX, itsB]
  | t :: xs, p, h, g => by
    have e : itsB (t :: xs) = itB t ++ itsB xs := by unfold itsB; simp
    have h1 : l.drop p = itB t ++ (itsB xs ++ R) := by rw [h, e, List.append_assoc]
    have h2 := itsX_enc xs (p + (itB t).length) (drop_step h1) (fun s hs => g s (List.mem_cons_of_mem _ hs))
    show itsX (xs.length + 1) l ⟨p, 0⟩ = _
    unfold itsX
    rw [if_neg (by simp), itX_enc h1 (g t List.mem_cons_self)]
    simp only
    rw [h2]
    simp only
    rw [e, List.length_append, Nat.add_assoc]
theorem refQ_enc (r : Rp) (g : Gd r) (R : List UInt8) : refQ (bytesRp r ++ R) = (r, ⟨(bytesRp r).length, 0⟩) := by
  have h1 : (bytesRp r ++ R).drop 0 = encz r.e ++ (encz r.tok ++ (encz r.ver ++ (enct r.card ++ (encz r.idx ++ (encz (b01 r.more) ++ (encz (r.xs.length : Int) ++ (itsB r.xs ++ R))))))) := by
    rw [List.drop_zero]; unfold bytesRp bytesR headB; simp only [List.append_assoc]
  have hlen : (bytesRp r).length = 0 + (encz r.e).length + (encz r.tok).length + (encz r.ver).length + (enct r.card).length + (encz r.idx).length + (encz (b01 r.more)).length + (encz (r.xs.length : Int)).length + (itsB r.xs).length := by
    unfold bytesRp bytesR headB; simp only [List.length_append]; omega
  obtain ⟨l, hl⟩ : ∃ l, bytesRp r ++ R = l := ⟨_, rfl⟩
  rw [hl] at h1 ⊢
  have h2 := drop_step h1
  have h3 := drop_step h2
  have h4 := drop_step h3
  have h5 := drop_step h4
  have h6 := drop_step h5
  have h7 := drop_step h6
  have h8 := drop_step h7
  unfold refQ
  simp only
  rw [smX_enc h1 g.e0 g.e]
  simp only
  rw [numP_enc h2 g.t0 g.t]
  simp only
  rw [numP_enc h3 g.v0 g.v]
  simp only
  rw [textP_enc h4 g.c]
  simp only
  rw [smX_enc h5 g.i0 g.i]
  simp only
  rw [mkX_enc h6]
  simp only
  rw [smX_enc h7 (by omega) (by have := g.n; omega)]
  simp only [Int.toNat_natCast]
  rw [itsX_enc r.xs _ h8 g.xs]
  simp only
  rw [hlen]
theorem smX_dec (h : (smX l q).2.e = 0) : q.e = 0 ∧ l.take (smX l q).2.p = l.take q.p ++ encz (smX l q).1 ∧ 0 ≤ (smX l q).1 ∧ (smX l q).1 ≤ 2147483647 := by
  unfold smX at h ⊢
  simp only at h ⊢
  split at h
  · cases h
  · rename_i h1
    rw [if_neg h1]
    exact ⟨(numP_dec h).1, (numP_dec h).2, numP_nat _ _, by omega⟩
theorem mkX_dec (h : (mkX l q).2.e = 0) : q.e = 0 ∧ l.take (mkX l q).2.p = l.take q.p ++ encz (b01 (mkX l q).1) := by
  unfold mkX mkE at h ⊢
  simp only at h ⊢
  split at h
  · cases h
  · rename_i h1
    have h2 : ¬ 1 < (numP l q).1 := fun h3 => h1 ⟨h, h3⟩
    have h3 := numP_nat l q
    have h4 : b01 ((numP l q).1 == 1) = (numP l q).1 := by
      have : (numP l q).1 = 0 ∨ (numP l q).1 = 1 := by omega
      rcases this with e | e <;> rw [e] <;> rfl
    rw [h4]
    exact numP_dec h
theorem itX_dec (h : (itX l q).2.e = 0) : q.e = 0 ∧ l.take (itX l q).2.p = l.take q.p ++ itB (itX l q).1 ∧ GdI (itX l q).1 := by
  unfold itX at h ⊢
  simp only at h ⊢
  have h4 := textP_dec h
  have h3 := mkX_dec h4.1
  have h2 := numP_dec h3.1
  have h1 := textP_dec h2.1
  refine ⟨h1.1, ?_, ⟨h1.2.2, numP_nat _ _, numP_lt _ _, h4.2.2⟩⟩
  rw [h4.2.1, h3.2, h2.2, h1.2.1]
  unfold itB encI
  simp only [List.append_assoc]
theorem itsX_dec (l : List UInt8) : ∀ (n : Nat) (q : Ps), (itsX n l q).2.e = 0 → q.e = 0 ∧ l.take (itsX n l q).2.p = l.take q.p ++ itsB (itsX n l q).1 ∧ (itsX n l q).1.length = n ∧ ∀ t ∈ (itsX n l q).1, GdI t
  | 0, q, h => ⟨h, by simp [itsX, itsB], rfl, fun t ht => by simp [itsX] at ht⟩
  | n + 1, q, h => by
    unfold itsX at h ⊢
    by_cases he : q.e ≠ 0
    · rw [if_pos he] at h; exact absurd h he
    · rw [if_neg he] at h ⊢
      simp only at h ⊢
      have h2 := itsX_dec l n _ h
      have h1 := itX_dec h2.1
      refine ⟨h1.1, ?_, by rw [List.length_cons, h2.2.2.1], fun t ht => ?_⟩
      · rw [h2.2.1, h1.2.1]
        unfold itsB
        rw [List.map_cons, List.flatten_cons, List.append_assoc]
      · rcases List.mem_cons.1 ht with rfl | ht
        · exact h1.2.2
        · exact h2.2.2.2 t ht
theorem refQ_dec (l : List UInt8) (h : (refQ l).2.e = 0) : l.take (refQ l).2.p = bytesRp (refQ l).1 ∧ Gd (refQ l).1 := by
  unfold refQ at h ⊢
  simp only at h ⊢
  have h8 := itsX_dec l _ _ h
  have h7 := smX_dec h8.1
  have h6 := mkX_dec h7.1
  have h5 := smX_dec h6.1
  have h4 := textP_dec h5.1
  have h3 := numP_dec h4.1
  have h2 := numP_dec h3.1
  have h1 := smX_dec h2.1
  refine ⟨?_, ?_⟩
  · unfold bytesRp bytesR headB
    simp only
    rw [h8.2.1, h7.2.1, h6.2, h5.2.1, h4.2.1, h3.2, h2.2, h1.2.1, h8.2.2.1, Int.toNat_of_nonneg h7.2.2.1]
    simp
  · refine ⟨h1.2.2.1, h1.2.2.2, numP_nat _ _, numP_lt _ _, numP_nat _ _, numP_lt _ _, h4.2.2, h5.2.2.1, h5.2.2.2, ?_, h8.2.2.2⟩
    show List.length _ ≤ 2147483647
    rw [h8.2.2.1]
    have := h7.2.2
    omega
end
/-- The reference's answer is the code's. -/
theorem ref_code (l : List UInt8) : (decP l).2 = ((refQ l).2.e == 0 && decide ((refQ l).2.p = l.length)) ∧ ((decP l).2 = true → (decP l).1 = (refQ l).1) := by
  cases hd : (decP l).2 with
  | true =>
    obtain ⟨h1, h2⟩ := decP_ok hd
    have h3 := refQ_enc _ h2 []
    rw [List.append_nil, h1] at h3
    rw [h3]
    exact ⟨by simp, fun _ => rfl⟩
  | false =>
    refine ⟨?_, fun h => by cases h⟩
    symm
    rw [Bool.and_eq_false_iff]
    by_cases he : (refQ l).2.e = 0
    · right
      refine decide_eq_false fun hp => ?_
      obtain ⟨h1, h2⟩ := refQ_dec l he
      rw [hp, List.take_length] at h1
      have h3 := decP_enc _ h2
      rw [← h1] at h3
      rw [h3] at hd
      cases hd
    · left
      simpa using he
/-- What the reference's Decode answers. -/
def refR (kind : Int) (l : List UInt8) : Int × Rp × Int :=
  if kind < 128 ∨ 139 < kind then (0, rpZ, 12)
  else if ((refQ l).2.e == 0 && decide ((refQ l).2.p = l.length)) = false then (0, rpZ, 1)
  else if checkRp (kind - 128) (refQ l).1 ≠ 0 then (0, rpZ, checkRp (kind - 128) (refQ l).1)
  else (kind - 128, (refQ l).1, 0)
theorem refR_dec (kind : Int) (l : List UInt8) : refR kind l = decR kind l := by
  obtain ⟨h1, h2⟩ := ref_code l
  unfold refR decR
  rw [← h1]
  by_cases hk : kind < 128 ∨ 139 < kind
  · rw [if_pos hk, if_pos hk]
  · rw [if_neg hk, if_neg hk]
    cases hd : (decP l).2 with
    | false => rw [if_pos rfl, if_pos rfl]
    | true => rw [h2 hd]
theorem itX_step (l : List UInt8) (q : Ps) : q.p ≤ (itX l q).2.p ∧ ((itX l q).2.e = 0 → q.p + 1 ≤ (itX l q).2.p) := by
  unfold itX
  simp only
  have h1 := textP_step 20000 l q
  have h2 := numP_step l (textP 20000 l q).2
  have h3 := numP_step l (numP l (textP 20000 l q).2).2
  have h3' : (numP l (textP 20000 l q).2).2.p ≤ (mkX l (numP l (textP 20000 l q).2).2).2.p := h3.1
  have h4 := textP_step 20000 l (mkX l (numP l (textP 20000 l q).2).2).2
  refine ⟨by omega, fun e => ?_⟩
  have := (h4.2 e).2
  omega
end Go.Proofs.Ytdoldjfabgcgbaa
