/- The reference's clock beside the code's: the same alarms, in the same order. -/
import Derived.Test.YtchjgojagmhpeaaRe
import Derived.Test.YtchjgojagmhpeaaSd
namespace Go.Proofs.Ytchjgojagmhpeaa
open Go.RowKit Go.Maps
open Go.Lib
set_option linter.unusedVariables false
set_option linter.unusedSimpArgs false
set_option maxRecDepth 100000
/-- Two lists in one strict order that hold the same are one. -/
theorem strict_eq {α : Type} {r : α → α → Prop} (ir : ∀ x, ¬ r x x) (tr : ∀ x y z, r x y → r y z → r x z) : ∀ (l m : List α), l.Pairwise r → m.Pairwise r → (∀ x, x ∈ l ↔ x ∈ m) → l = m
  | [], [], _, _, _ => rfl
  | [], b :: m, _, _, h => by have := (h b).2 (by simp); cases this
  | a :: l, [], _, _, h => by have := (h a).1 (by simp); cases this
  | a :: l, b :: m, h1, h2, h => by
    obtain ⟨p1, p2⟩ := List.pairwise_cons.1 h1
    obtain ⟨q1, q2⟩ := List.pairwise_cons.1 h2
    have hab : a = b := by
      rcases List.mem_cons.1 ((h a).1 (by simp)) with e | e
      · exact e
      · rcases List.mem_cons.1 ((h b).2 (by simp)) with f | f
        · exact f.symm
        · exact absurd (tr _ _ _ (p1 b f) (q1 a e)) (ir a)
    subst hab
    refine congrArg (a :: ·) (strict_eq ir tr l m p2 q2 (fun x => ⟨fun hx => ?_, fun hx => ?_⟩))
    · rcases List.mem_cons.1 ((h x).1 (List.mem_cons_of_mem _ hx)) with e | e
      · subst e; exact absurd (p1 x hx) (ir x)
      · exact e
    · rcases List.mem_cons.1 ((h x).2 (List.mem_cons_of_mem _ hx)) with e | e
      · subst e; exact absurd (q1 x hx) (ir x)
      · exact e
def ahdP (p q : Int × Int) : Prop := p.2 < q.2 ∨ (p.2 = q.2 ∧ p.1 < q.1)
theorem ahdB_iff (p q : Int × Int) : ahdB p q = true ↔ ahdP p q := by
  unfold ahdB ahdP
  simp
  omega
theorem ahdP_irrefl (p : Int × Int) : ¬ ahdP p p := by unfold ahdP; omega
theorem ahdP_trans (p q r : Int × Int) (h1 : ahdP p q) (h2 : ahdP q r) : ahdP p r := by unfold ahdP at *; omega
theorem ahdP_tot (p q : Int × Int) (hne : p.1 ≠ q.1) (h : ¬ ahdP p q) : ahdP q p := by unfold ahdP at *; omega
theorem putAt_mem (p r : Int × Int) (K : List (Int × Int)) (k : Nat) : r ∈ putAt p K k ↔ r = p ∨ r ∈ K := by
  unfold putAt
  conv => rhs; rw [← List.take_append_drop k K]
  simp only [List.mem_append, List.mem_cons]
  constructor
  · rintro (h | h | h)
    · exact .inr (.inl h)
    · exact .inl h
    · exact .inr (.inr h)
  · rintro (h | h | h)
    · exact .inr (.inl h)
    · exact .inl h
    · exact .inr (.inr h)
theorem rIns_mem (p r : Int × Int) (K : List (Int × Int)) : r ∈ rIns K p ↔ r = p ∨ r ∈ K := putAt_mem _ _ _ _
theorem foldl_mem (r : Int × Int) : ∀ (M K : List (Int × Int)), r ∈ M.foldl rIns K ↔ r ∈ M ∨ r ∈ K
  | [], K => by simp
  | p :: M, K => by
    rw [List.foldl_cons, foldl_mem r M, rIns_mem, List.mem_cons]
    constructor
    · rintro (h | h | h)
      · exact .inl (.inr h)
      · exact .inl (.inl h)
      · exact .inr h
    · rintro ((h | h) | h)
      · exact .inr (.inl h)
      · exact .inl h
      · exact .inr (.inr h)
theorem posP_spec (p : Int × Int) (K : List (Int × Int)) : ∀ k, k ≤ K.length → posP p K k ≤ k ∧ (∀ j r, posP p K k ≤ j → j < k → K[j]? = some r → ahdP p r) ∧ (∀ r, 0 < posP p K k → K[posP p K k - 1]? = some r → ¬ ahdP p r)
  | 0, _ => ⟨Nat.le_refl _, fun j r _ h => absurd h (Nat.not_lt_zero _), fun r h => absurd h (Nat.lt_irrefl _)⟩
  | k + 1, hk => by
    obtain ⟨r0, hr0⟩ : ∃ r, K[k]? = some r := ⟨K[k], List.getElem?_eq_getElem _⟩
    have e : posP p K (k + 1) = if ahdB p r0 = true then posP p K k else k + 1 := by conv => lhs; unfold posP; rw [hr0]
    obtain ⟨i1, i2, i3⟩ := posP_spec p K k (by omega)
    by_cases hb : ahdB p r0 = true
    · rw [if_pos hb] at e
      rw [e]
      refine ⟨by omega, fun j r h1 h2 h3 => ?_, i3⟩
      by_cases hj : j = k
      · subst hj
        rw [hr0] at h3
        cases h3
        exact (ahdB_iff _ _).1 hb
      · exact i2 j r h1 (by omega) h3
    · rw [if_neg hb] at e
      rw [e]
      refine ⟨Nat.le_refl _, fun j r h1 h2 => by omega, fun r _ h => ?_⟩
      rw [show k + 1 - 1 = k by omega, hr0] at h
      cases h
      exact fun hh => hb ((ahdB_iff _ _).2 hh)
theorem rIns_sorted (p : Int × Int) (K : List (Int × Int)) (hs : K.Pairwise ahdP) (hp : ∀ r ∈ K, r.1 ≠ p.1) : (rIns K p).Pairwise ahdP := by
  obtain ⟨i1, i2, i3⟩ := posP_spec p K K.length (Nat.le_refl _)
  unfold rIns putAt
  obtain ⟨k, hk⟩ : ∃ k, posP p K K.length = k := ⟨_, rfl⟩
  rw [hk] at i1 i2 i3 ⊢
  rw [← List.take_append_drop k K] at hs
  obtain ⟨s1, s2, s3⟩ := List.pairwise_append.1 hs
  have hd : ∀ r ∈ K.drop k, ahdP p r := fun r hr => by
    obtain ⟨j, hj⟩ := List.getElem?_of_mem hr
    rw [List.getElem?_drop] at hj
    exact i2 (k + j) r (by omega) (List.getElem?_eq_some_iff.1 hj).1 hj
  have ht : ∀ r ∈ K.take k, ahdP r p := fun r hr => by
    obtain ⟨j, hj⟩ := List.getElem?_of_mem hr
    have hjk : j < k := by
      have := (List.getElem?_eq_some_iff.1 hj).1
      rw [List.length_take] at this
      omega
    rw [List.getElem?_take, if_pos hjk] at hj
    obtain ⟨z, hz⟩ : ∃ z, K[k - 1]? = some z := ⟨K[k - 1], List.getElem?_eq_getElem _⟩
    have hzp : ahdP z p := ahdP_tot p z (fun e => hp z (List.mem_of_getElem? hz) e.symm) (i3 z (by omega) hz)
    by_cases hjz : j = k - 1
    · subst hjz
      rw [hz] at hj
      cases hj
      exact hzp
    · refine ahdP_trans _ z _ ?_ hzp
      have hs' := List.pairwise_iff_getElem.1 (List.take_append_drop k K ▸ hs)
      obtain ⟨l1, e1⟩ := List.getElem?_eq_some_iff.1 hj
      obtain ⟨l2, e2⟩ := List.getElem?_eq_some_iff.1 hz
      have := hs' j (k - 1) l1 l2 (by omega)
      rwa [e1, e2] at this
  refine List.pairwise_append.2 ⟨s1, List.pairwise_cons.2 ⟨hd, s2⟩, fun a ha b hb => ?_⟩
  rcases List.mem_cons.1 hb with rfl | hb
  · exact ht a ha
  · exact s3 a ha b hb
theorem foldl_sorted : ∀ (M K : List (Int × Int)), K.Pairwise ahdP → (M.map Prod.fst).Nodup → (∀ r ∈ K, ∀ p ∈ M, r.1 ≠ p.1) → (M.foldl rIns K).Pairwise ahdP
  | [], K, h, _, _ => h
  | p :: M, K, h, hn, hd => by
    rw [List.map_cons, List.nodup_cons] at hn
    refine foldl_sorted M _ (rIns_sorted p K h (fun r hr => hd r hr p (by simp))) hn.2 (fun r hr q hq => ?_)
    rcases (rIns_mem p r K).1 hr with rfl | hr
    · intro e
      exact hn.1 (List.mem_map.2 ⟨q, hq, e.symm⟩)
    · exact hd r hr q (List.mem_cons_of_mem _ hq)
/-- What the reference's rows say of the code's map. -/
structure Lk (L : List (Int × Int)) (D : MD) : Prop where
  look : ∀ x, look x L = al D x
  one : (L.map Prod.fst).Nodup
  wf : ∀ p ∈ L, wf p.1
theorem look_mem : ∀ (L : List (Int × Int)), (L.map Prod.fst).Nodup → ∀ p, p ∈ L ↔ look p.1 L = some p.2
  | [], _, p => by simp [look]
  | q :: L, h, p => by
    rw [List.map_cons, List.nodup_cons] at h
    show _ ↔ (if q.1 = p.1 then some q.2 else look p.1 L) = some p.2
    by_cases e : q.1 = p.1
    · rw [if_pos e, List.mem_cons]
      constructor
      · rintro (rfl | hp)
        · rfl
        · exact absurd (List.mem_map.2 ⟨p, hp, e.symm⟩) h.1
      · intro h2
        exact .inl (Prod.ext e.symm (Option.some.inj h2).symm)
    · rw [if_neg e, List.mem_cons, ← look_mem L h.2 p]
      constructor
      · rintro (rfl | hp)
        · exact absurd rfl e
        · exact hp
      · exact .inr
theorem look_none {x : Int} : ∀ (L : List (Int × Int)), (∀ p ∈ L, p.1 ≠ x) → look x L = none
  | [], _ => rfl
  | p :: L, h => by
    show (if p.1 = x then some p.2 else look x L) = none
    rw [if_neg (h p (by simp))]
    exact look_none L (fun r hr => h r (List.mem_cons_of_mem _ hr))
theorem look_append (x : Int) : ∀ (L M : List (Int × Int)), look x (L ++ M) = (look x L).or (look x M)
  | [], M => by simp [look]
  | p :: L, M => by
    show (if p.1 = x then some p.2 else look x (L ++ M)) = (if p.1 = x then some p.2 else look x L).or (look x M)
    by_cases e : p.1 = x
    · rw [if_pos e, if_pos e]; rfl
    · rw [if_neg e, if_neg e]; exact look_append x L M
theorem look_drop (x : Int) : ∀ L : List (Int × Int), look x (dropL L x) = none := fun L => look_none _ (fun p hp => by
  have := (List.mem_filter.1 hp).2
  simpa using this)
theorem look_drop_ne {x y : Int} (hne : y ≠ x) : ∀ L : List (Int × Int), look y (dropL L x) = look y L
  | [] => rfl
  | p :: L => by
    unfold dropL
    rw [List.filter_cons]
    by_cases e : p.1 = x
    · rw [if_neg (by simp [e])]
      show look y (dropL L x) = if p.1 = y then some p.2 else look y L
      rw [look_drop_ne hne L, if_neg (fun h => hne (h.symm.trans e))]
    · rw [if_pos (by simpa using e)]
      show (if p.1 = y then some p.2 else look y (dropL L x)) = if p.1 = y then some p.2 else look y L
      rw [look_drop_ne hne L]
theorem Lk.nil : Lk [] (.map []) := ⟨fun x => by unfold al; rfl, List.nodup_nil, fun p hp => by cases hp⟩
theorem Lk.put {L : List (Int × Int)} {D : MD} (h : Lk L D) (hD : IsMap D) (x v : Int) (hx : Ytchjgojagmhpeaa.wf x) : Lk (dropL L x ++ [(x, v)]) (D.put (.int .i64 x) (.lit (.int .i64 v))) := by
  refine ⟨fun y => ?_, ?_, fun p hp => ?_⟩
  · rw [look_append]
    by_cases e : y = x
    · subst e
      rw [look_drop, al_put hD]
      show (none : Option Int).or (if y = y then some v else none) = some v
      rw [if_pos rfl]
      rfl
    · rw [look_drop_ne e, al_put_ne e, h.look y]
      show (al D y).or (if x = y then some v else none) = al D y
      rw [if_neg (fun h => e h.symm)]
      cases al D y <;> rfl
  · rw [List.map_append, List.nodup_append]
    refine ⟨(List.Sublist.map Prod.fst List.filter_sublist).nodup h.one, by simp, fun a ha b hb => ?_⟩
    obtain ⟨p, hp, rfl⟩ := List.mem_map.1 ha
    have := (List.mem_filter.1 hp).2
    simp at hb this
    subst hb
    exact this
  · rcases List.mem_append.1 hp with hp | hp
    · exact h.wf p (List.mem_filter.1 hp).1
    · rw [List.mem_singleton.1 hp]; exact hx
theorem Lk.del {L : List (Int × Int)} {D : MD} (h : Lk L D) (x : Int) : Lk (dropL L x) (D.del (.int .i64 x)) := by
  refine ⟨fun y => ?_, (List.Sublist.map Prod.fst List.filter_sublist).nodup h.one, fun p hp => h.wf p (List.mem_filter.1 hp).1⟩
  by_cases e : y = x
  · subst e
    rw [look_drop, al_del]
  · rw [look_drop_ne e, al_del_ne e, h.look y]
theorem Lk.due {L : List (Int × Int)} {D : MD} (h : Lk L D) (now x : Int) : rdue L now x = dueB D now x := by unfold rdue dueB; rw [h.look]; rfl
theorem tm_of {D : MD} {x v : Int} (h : al D x = some v) : tm D x = v := by unfold tm; rw [h]; rfl
/-- The reference's All is the code's. -/
theorem rall_same {L : List (Int × Int)} {D : MD} (h : Lk L D) {now : Int} {ys : List Int} (hs : ys.Pairwise (ahd D)) (hm : ∀ x, Ytchjgojagmhpeaa.wf x → (x ∈ ys ↔ dueB D now x = true)) (hw : ∀ x ∈ ys, Ytchjgojagmhpeaa.wf x) : (rAll now L).map Prod.fst = ys := by
  have mem : ∀ p, p ∈ rAll now L ↔ (al D p.1 = some p.2 ∧ p.2 ≤ now) := fun p => by
    unfold rAll
    rw [foldl_mem, List.mem_filter, look_mem L h.one p, h.look]
    simp
  have due : ∀ x, dueB D now x = true ↔ ∃ v, al D x = some v ∧ v ≤ now := fun x => by
    unfold dueB
    cases al D x <;> simp
  have e : rAll now L = ys.map (fun x => (x, tm D x)) := by
    refine strict_eq ahdP_irrefl ahdP_trans _ _ ?_ ?_ (fun p => ?_)
    · refine foldl_sorted _ _ List.Pairwise.nil ((List.Sublist.map Prod.fst List.filter_sublist).nodup h.one) (fun r hr => by cases hr)
    · rw [List.pairwise_map]
      exact hs
    · rw [mem, List.mem_map]
      constructor
      · rintro ⟨h1, h2⟩
        have hwp : Ytchjgojagmhpeaa.wf p.1 := h.wf p ((look_mem L h.one p).2 ((h.look p.1).trans h1))
        refine ⟨p.1, (hm _ hwp).2 ((due _).2 ⟨p.2, h1, h2⟩), ?_⟩
        rw [tm_of h1]
      · rintro ⟨x, hx, rfl⟩
        obtain ⟨v, h1, h2⟩ := (due x).1 ((hm x (hw x hx)).1 hx)
        rw [tm_of h1]
        exact ⟨h1, h2⟩
  rw [e, List.map_map]
  exact List.map_id _
end Go.Proofs.Ytchjgojagmhpeaa
