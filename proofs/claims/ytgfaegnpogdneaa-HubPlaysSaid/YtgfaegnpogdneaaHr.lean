/- The hub: Remove, At. -/
import Derived.Test.YtgfaegnpogdneaaHl
namespace Go.Proofs.Ytgfaegnpogdneaa
open Go.RowKit Go.Maps
open Go.Proofs Go.Lib
set_option linter.unusedVariables false
set_option linter.unusedSimpArgs false
set_option maxRecDepth 100000
theorem spot (x : Int) : ∀ l : List Int, l.Nodup → x ∈ l → ∃ k, k < l.length ∧ l.getD k 0 = x ∧ (∀ j, j < k → l.getD j 0 ≠ x) ∧ l.filter (fun y => y != x) = l.eraseIdx k
  | [], _, h => by cases h
  | a :: l, hn, h => by
    rw [List.nodup_cons] at hn
    by_cases e : a = x
    · subst e
      refine ⟨0, by simp, rfl, fun j hj => absurd hj (Nat.not_lt_zero _), ?_⟩
      rw [List.filter_cons, if_neg (by simp), List.eraseIdx_cons_zero, List.filter_eq_self]
      intro y hy
      have : y ≠ a := fun e => hn.1 (e ▸ hy)
      simpa using this
    · have hm : x ∈ l := by
        rcases List.mem_cons.1 h with h | h
        · exact absurd h.symm e
        · exact h
      obtain ⟨k, h1, h2, h3, h4⟩ := spot x l hn.2 hm
      refine ⟨k + 1, by simp; omega, by simpa using h2, fun j hj => ?_, ?_⟩
      · cases j with
        | zero => simpa using e
        | succ j => simpa using h3 j (by omega)
      · rw [List.filter_cons, if_pos (by simpa using e), List.eraseIdx_cons_succ, h4]
def delL (Z : List Slp) (x : Int) : List Slp := Z.filter fun s => s.who != x
theorem delL_mem {Z : List Slp} {x : Int} {s : Slp} (h : s ∈ delL Z x) : s ∈ Z ∧ s.who ≠ x := by
  have := List.mem_filter.1 h
  exact ⟨this.1, by simpa using this.2⟩
theorem delL_len {x : Int} : ∀ {Z : List Slp}, (Z.map Slp.who).Nodup → (look x Z).isSome = true → (delL Z x).length + 1 = Z.length
  | [], _, h => by cases h
  | t :: Z, hn, h => by
    rw [List.map_cons, List.nodup_cons] at hn
    unfold delL
    rw [List.filter_cons]
    by_cases e : t.who = x
    · rw [if_neg (by simp [e])]
      have : Z.filter (fun s => s.who != x) = Z := List.filter_eq_self.2 (fun s hs => by
        have : s.who ≠ x := fun e2 => hn.1 (List.mem_map.2 ⟨s, hs, e2.trans e.symm⟩)
        simpa using this)
      rw [this]; rfl
    · rw [if_pos (by simpa using e)]
      have h' : (look x Z).isSome = true := by
        unfold look at h
        rwa [if_neg e] at h
      have := delL_len hn.2 h'
      unfold delL at this
      simp only [List.length_cons]
      omega
theorem look_del_ne {x y : Int} (hne : y ≠ x) : ∀ Z : List Slp, look y (delL Z x) = look y Z
  | [] => rfl
  | t :: Z => by
    have ih := look_del_ne hne Z
    unfold delL at *
    rw [List.filter_cons]
    by_cases e : t.who = x
    · rw [if_neg (by simp [e]), ih]
      show _ = if t.who = y then some t else look y Z
      rw [if_neg (fun h => hne (h.symm.trans e))]
    · rw [if_pos (by simpa using e)]
      show (if t.who = y then some t else look y _) = if t.who = y then some t else look y Z
      rw [ih]
theorem look_del (x : Int) (Z : List Slp) : look x (delL Z x) = none := look_none_of (fun s hs => (delL_mem hs).2)
theorem atL_del (Z : List Slp) (x q : Int) : atL (delL Z x) q = (atL Z q).filter (fun y => y != x) := by
  unfold atL delL
  rw [List.filter_filter, List.filter_map, List.filter_filter]
  congr 2
  funext s
  exact Bool.and_comm _ _
theorem atL_nodup {Z : List Slp} (h : (Z.map Slp.who).Nodup) (q : Int) : (atL Z q).Nodup := (List.Sublist.map Slp.who List.filter_sublist).nodup h
theorem atL_mem {Z : List Slp} {q y : Int} (h : y ∈ atL Z q) : ∃ s ∈ Z, s.who = y ∧ s.place = q := by
  obtain ⟨s, hs, rfl⟩ := List.mem_map.1 h
  obtain ⟨h1, h2⟩ := List.mem_filter.1 hs
  exact ⟨s, h1, rfl, by simpa using h2⟩
theorem atL_mem_of {Z : List Slp} {s : Slp} (h : s ∈ Z) : s.who ∈ atL Z s.place := List.mem_map.2 ⟨s, List.mem_filter.2 ⟨h, by simp⟩, rfl⟩
theorem atL_del_ne {Z : List Slp} (h1 : (Z.map Slp.who).Nodup) {x q : Int} {s : Slp} (hs : look x Z = some s) (hq : q ≠ s.place) : atL (delL Z x) q = atL Z q := by
  rw [atL_del, List.filter_eq_self]
  intro y hy
  obtain ⟨t, ht, rfl, h2⟩ := atL_mem hy
  have : t.who ≠ x := fun e => by
    have := look_some_of h1 t ht e
    rw [hs] at this
    cases this
    exact hq h2.symm
  simpa using this
theorem atL_len (Z : List Slp) (p : Int) : (atL Z p).length ≤ Z.length := by
  unfold atL
  rw [List.length_map]
  exact List.length_filter_le _ Z
section
variable {w W : World} {R b1 b2 B n : Nat} {No : Nat → Prop} {Z : List Slp} {D1 D2 D4 : VD}
theorem rem_done (h : Hb w R b1 b2 B No n Z D1 D2) {x : Int} {s : Slp} (hs : look x Z = some s) (hsz : w.heap.size ≤ W.heap.size) (v1 : Vm W b1 (D1.del (.int .i64 x))) (v2 : Vm W b2 D4) (hq : ∀ q, q ≠ s.place → vl D4 q = vl D2 q) (hz : Maps.size D4 ≤ n)
    (hrow : W.ownsRow B 3 1 (slc D4 s.place) (atL (delL Z x) s.place).length (ivs (atL (delL Z x) s.place))) (hemp : atL (delL Z x) s.place = [] → vl D4 s.place = none) (hblk : ∀ j, (slc D4 s.place).ownBlock = some j → (slc D2 s.place).ownBlock = some j)
    (hkeep : ∀ j, j < w.heap.size → j ≠ b1 → j ≠ b2 → (slc D2 s.place).ownBlock ≠ some j → W.heap[j]? = w.heap[j]?) :
    Hb W R b1 b2 B No n (delL Z x) (D1.del (.int .i64 x)) D4 := by
  have i1 := h.m1.vd
  have hl := h.lt
  have sq : ∀ q, q ≠ s.place → slc D4 q = slc D2 q := fun q e => by unfold slc; rw [hq q e]
  have hlen := delL_len h.one (show (look x Z).isSome = true by rw [hs]; rfl)
  have bq : ∀ q j, (slc D4 q).ownBlock = some j → (slc D2 q).ownBlock = some j := fun q j hj => by
    by_cases e : q = s.place
    · subst e; exact hblk j hj
    · rwa [sq q e] at hj
  refine ⟨(hkeep R hl.1 h.ne.1 h.ne.2.1 (fun e => (h.shun s.place R e).1 rfl)).trans h.box, v1, v2, fun y => ?_, ?_, hz, ?_, (List.Sublist.map Slp.who List.filter_sublist).nodup h.one, fun t ht => h.wfz t (delL_mem ht).1, fun q => ?_, fun q he => ?_, fun q j hj => h.shun q j (bq q j hj), fun q r j hqr hq hr => h.apart q r j hqr (bq q j hq) (bq r j hr), h.ne, h.nR, h.ge, fun j hj => Nat.lt_of_lt_of_le (h.noLt j hj) hsz, h.noB⟩
  · by_cases e : y = x
    · subst e
      rw [vl_del, look_del]; rfl
    · rw [vl_del_ne e, look_del_ne e, h.d1]
  · have := i1.size_del x
    rw [slv h, hs, h.s1] at this
    simp at this
    omega
  · have := h.zn
    omega
  · by_cases e : q = s.place
    · subst e; exact hrow
    · rw [sq q e, atL_del_ne h.one hs e]
      exact row_keep (h.row q) (fun j hj => hkeep j ((h.row q).lt j hj).2 (h.shun q j hj).2.1 (h.shun q j hj).2.2.1 (fun e2 => h.apart q s.place j e hj e2))
  · by_cases e : q = s.place
    · subst e; exact hemp he
    · rw [hq q e]
      rw [atL_del_ne h.one hs e] at he
      exact h.emp q he
theorem rem_no (h : Hb w R b1 b2 B No n Z D1 D2) (x : Int) (hx : wf x) (hl : look x Z = none) : Calls Try.prog 14 #[.pointer (some ⟨R, 0, none⟩), .int .i64 x] w fun e w' => e = .returned (.bool false) ∧ Below w.heap.size w w' := by
  have c0 := h.c0
  have hlk := (h.m1.look Try.underlying43 (zero48 w) hx).1
  rw [h.d1, hl] at hlk
  simp only [Option.map_none, Option.getD_none, Option.isSome_none] at hlk
  clear h hl
  go_enter Try.func14, Try.ntmps14
  go_wp2
  go_ret
  exact ⟨rfl, (Below.refl _ _).alloc (Nat.le_refl _) _⟩
theorem at_any (h : Hb w R b1 b2 B No n Z D1 D2) (hn : n ≤ 1000) (p : Int) (hp : wf p) : Calls Try.prog 18 #[.pointer (some ⟨R, 0, none⟩), .int .i64 p] w fun e w' => ∃ V, e = .returned V ∧ w'.ownsRow w.heap.size 3 1 V (atL Z p).length (ivs (atL Z p)) ∧ Below w.heap.size w w' := by
  have c1 := h.c1
  have hlk := (h.m2.look Try.underlying44 (zero34 w) hp).2
  have HC := Lib.hid (lib_clone (h.row p) (by have := atL_len Z p; have := h.zn; omega))
  change _ = Result.ok (slc D2 p) w at hlk
  obtain ⟨V, hV⟩ : ∃ V, slc D2 p = V := ⟨_, rfl⟩
  rw [hV] at hlk HC
  clear h hV
  go_enter Try.func18, Try.ntmps18
  go_wp2_with (first | (go_at_call 26; (with_reducible refine (HC.out).mono ?_); rintro _ w1 ⟨V1, rfl, h1, h2⟩; have HR := Lib.hid h1; have HB := Lib.hid h2; clear h1 h2) | fail)
  go_ret
  exact ⟨_, rfl, HR.out, HB.out⟩
end
end Go.Proofs.Ytgfaegnpogdneaa
