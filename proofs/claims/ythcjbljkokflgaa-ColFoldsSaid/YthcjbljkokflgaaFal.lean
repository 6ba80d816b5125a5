/- slices.swapRange and rotate, at items. -/
import Derived.Shelf.SlSortCmp.WholeK
import Derived.Deep.LoopGhost
import Derived.Lib.Hide
import Derived.Test.YthcjbljkokflgaaChecked
set_option linter.unnecessarySimpa false
/- Rows that are sorted by exchanges (maths): swapRange, rotate, symMerge. -/
namespace Go.Proofs.Ythcjbljkokflgaa
open Go.RowKit
open Go.Lib hiding intOf
open Go.Sort Go.Proofs
set_option linter.unusedVariables false
set_option linter.unusedSimpArgs false
set_option maxRecDepth 1000000
section
variable {α : Type} (k : α → Int) (R : α → α → Prop)
/-- By key, then by R. -/
def Lx (x y : α) : Prop := k x < k y ∨ (k x = k y ∧ R x y)
/-- Runs: rising by Lx. -/
abbrev Ris (l : List α) : Prop := l.Pairwise (Lx k R)
variable {k R}
theorem Lx.le {x y : α} (h : Lx k R x y) : k x ≤ k y := by
  rcases h with h | ⟨h, _⟩
  · exact Int.le_of_lt h
  · exact Int.le_of_eq h
theorem lx_of_le {x y : α} (h : k x ≤ k y) (r : R x y) : Lx k R x y := by
  rcases Int.lt_or_eq_of_le h with h | h
  · exact .inl h
  · exact .inr ⟨h, r⟩
/-- One at the left is put in among those at the right. -/
theorem ris_left {x : α} {A B : List α} (h : Ris k R (A ++ B)) (hA : ∀ y ∈ A, k y < k x) (hB : ∀ y ∈ B, k x ≤ k y) (hR : ∀ y ∈ A ++ B, R x y) : Ris k R (A ++ x :: B) := by
  have h' := List.pairwise_append.1 h
  refine List.pairwise_append.2 ⟨h'.1, List.pairwise_cons.2 ⟨fun y hy => lx_of_le (hB y hy) (hR y (List.mem_append_right _ hy)), h'.2.1⟩, fun a ha b hb => ?_⟩
  rcases List.mem_cons.1 hb with rfl | hb
  · exact .inl (hA a ha)
  · exact h'.2.2 a ha b hb
/-- One at the right is put in among those at the left. -/
theorem ris_right {y : α} {A B : List α} (h : Ris k R (A ++ B)) (hA : ∀ x ∈ A, k x ≤ k y) (hB : ∀ x ∈ B, k y < k x) (hR : ∀ x ∈ A ++ B, R x y) : Ris k R (A ++ y :: B) := by
  have h' := List.pairwise_append.1 h
  refine List.pairwise_append.2 ⟨h'.1, List.pairwise_cons.2 ⟨fun x hx => .inl (hB x hx), h'.2.1⟩, fun a ha b hb => ?_⟩
  rcases List.mem_cons.1 hb with rfl | hb
  · exact lx_of_le (hA a ha) (hR a (List.mem_append_left _ ha))
  · exact h'.2.2 a ha b hb
/-- The cut of symMerge: what is behind it belongs behind what is ahead of it. -/
theorem ris_cross {L1 L2 R1 R2 M1 M2 : List α} (hL : Ris k R (L1 ++ L2)) (hR : Ris k R (R1 ++ R2)) (ht : ∀ x ∈ L1 ++ L2, ∀ y ∈ R1 ++ R2, R x y)
    (h1 : ∀ x ∈ L1, ∀ y ∈ R2, k x ≤ k y) (h2 : ∀ x ∈ L2, ∀ y ∈ R1, k y < k x) (p1 : M1.Perm (L1 ++ R1)) (p2 : M2.Perm (L2 ++ R2)) (s1 : Ris k R M1) (s2 : Ris k R M2) : Ris k R (M1 ++ M2) := by
  refine List.pairwise_append.2 ⟨s1, s2, fun a ha b hb => ?_⟩
  rcases List.mem_append.1 (p1.mem_iff.1 ha) with ha | ha <;> rcases List.mem_append.1 (p2.mem_iff.1 hb) with hb | hb
  · exact (List.pairwise_append.1 hL).2.2 a ha b hb
  · exact lx_of_le (h1 a ha b hb) (ht a (List.mem_append_left _ ha) b (List.mem_append_right _ hb))
  · exact .inl (h2 b hb a ha)
  · exact (List.pairwise_append.1 hR).2.2 a ha b hb
/-- Keys rise along a run. -/
theorem ris_key {l : List α} (h : Ris k R l) {i j : Nat} (hij : i ≤ j) {x y : α} (hx : l[i]? = some x) (hy : l[j]? = some y) : k x ≤ k y := by
  rcases Nat.lt_or_eq_of_le hij with hlt | rfl
  · obtain ⟨hi, rfl⟩ := List.getElem?_eq_some_iff.1 hx
    obtain ⟨hj, rfl⟩ := List.getElem?_eq_some_iff.1 hy
    exact (List.pairwise_iff_getElem.1 h i j hi hj hlt).le
  · rw [hx] at hy; cases hy; exact Int.le_refl _
end
section
variable {α : Type} [Inhabited α]
theorem arr_get (d : Array α) (A C : List α) (x : α) (h : d.toList = A ++ x :: C) : d[A.length]! = x := by
  have e : d = (A ++ x :: C).toArray := by rw [← h]
  rw [e]
  simp
theorem swp_list (d : Array α) (A B C : List α) (x y : α) (h : d.toList = A ++ x :: (B ++ y :: C)) : (swp d A.length (A.length + (B.length + 1))).toList = A ++ y :: (B ++ x :: C) := by
  have e1 : d[A.length]! = x := arr_get d A _ x h
  have e2 : d[A.length + (B.length + 1)]! = y := by
    have := arr_get d (A ++ x :: B) C y (by rw [h]; simp)
    rw [List.length_append, List.length_cons] at this
    exact this
  unfold swp
  rw [e1, e2, Array.toList_setIfInBounds, Array.toList_setIfInBounds, h]
  rw [List.set_append_right _ _ (Nat.le_refl _), Nat.sub_self, List.set_cons_zero]
  rw [List.set_append_right _ _ (by omega), show A.length + (B.length + 1) - A.length = B.length + 1 by omega, List.set_cons_succ, List.set_append_right _ _ (Nat.le_refl _), Nat.sub_self, List.set_cons_zero]
/-- Like swp_list, the other place named first. -/
theorem swp_list2 (d : Array α) (A B C : List α) (x y : α) (h : d.toList = A ++ x :: (B ++ y :: C)) : (swp d (A.length + (B.length + 1)) A.length).toList = A ++ y :: (B ++ x :: C) := by
  have e1 : d[A.length]! = x := arr_get d A _ x h
  have e2 : d[A.length + (B.length + 1)]! = y := by
    have := arr_get d (A ++ x :: B) C y (by rw [h]; simp)
    rw [List.length_append, List.length_cons] at this
    exact this
  unfold swp
  rw [e1, e2, Array.toList_setIfInBounds, Array.toList_setIfInBounds, h]
  rw [List.set_append_right _ _ (by omega), show A.length + (B.length + 1) - A.length = B.length + 1 by omega, List.set_cons_succ, List.set_append_right _ _ (Nat.le_refl _), Nat.sub_self, List.set_cons_zero]
  rw [List.set_append_right _ _ (Nat.le_refl _), Nat.sub_self, List.set_cons_zero]
/-- A round of swapRange. -/
theorem swapRange_step (d : Array α) (P X Y Z S : List α) (i : Nat) (hi : i < X.length) (hz : Z.length = X.length)
    (h : d.toList = P ++ ((Z.take i ++ X.drop i) ++ (Y ++ ((X.take i ++ Z.drop i) ++ S)))) :
    (swp d (P.length + i) (P.length + X.length + Y.length + i)).toList = P ++ ((Z.take (i + 1) ++ X.drop (i + 1)) ++ (Y ++ ((X.take (i + 1) ++ Z.drop (i + 1)) ++ S))) := by
  have hx : X.drop i = X[i] :: X.drop (i + 1) := List.drop_eq_getElem_cons hi
  have hzz : Z.drop i = Z[i] :: Z.drop (i + 1) := List.drop_eq_getElem_cons (by omega)
  have e := swp_list d (P ++ Z.take i) (X.drop (i + 1) ++ Y ++ X.take i) (Z.drop (i + 1) ++ S) X[i] Z[i] (by rw [h, hx, hzz]; simp only [List.append_assoc, List.cons_append, List.nil_append])
  have l1 : (P ++ Z.take i).length = P.length + i := by rw [List.length_append, List.length_take]; omega
  have l2 : (P ++ Z.take i).length + ((X.drop (i + 1) ++ Y ++ X.take i).length + 1) = P.length + X.length + Y.length + i := by
    rw [l1]; simp only [List.length_append, List.length_drop, List.length_take]; omega
  rw [l2, l1] at e
  rw [e, List.take_succ_eq_append_getElem (show i < Z.length by omega), List.take_succ_eq_append_getElem hi]
  simp only [List.append_assoc, List.cons_append, List.nil_append]
/-- One at the left goes behind some: a step. -/
theorem shift_right (d : Array α) (P A : List α) (x y : α) (B : List α) (h : d.toList = P ++ (A ++ x :: (y :: B))) : (swp d (P.length + A.length) (P.length + A.length + 1)).toList = P ++ ((A ++ [y]) ++ x :: B) := by
  have e := swp_list d (P ++ A) [] B x y (by rw [h]; simp)
  have l1 : (P ++ A).length + (([] : List α).length + 1) = P.length + A.length + 1 := by simp
  rw [l1, List.length_append] at e
  rw [e]; simp
/-- One at the right goes ahead of some: a step. -/
theorem shift_left (d : Array α) (P A : List α) (x y : α) (B : List α) (h : d.toList = P ++ (A ++ x :: (y :: B))) : (swp d (P.length + A.length + 1) (P.length + A.length)).toList = P ++ (A ++ y :: (x :: B)) := by
  have e := swp_list2 d (P ++ A) [] B x y (by rw [h]; simp)
  have l1 : (P ++ A).length + (([] : List α).length + 1) = P.length + A.length + 1 := by simp
  rw [l1, List.length_append] at e
  rw [e]; simp
omit [Inhabited α] in
theorem drop_cons_of {l : List α} {q : Nat} {x : α} (h : l[q]? = some x) : l.drop q = x :: l.drop (q + 1) := by
  obtain ⟨h1, rfl⟩ := List.getElem?_eq_some_iff.1 h
  exact List.drop_eq_getElem_cons h1
omit [Inhabited α] in
theorem take_snoc_of {l : List α} {q : Nat} {x : α} (h : l[q]? = some x) : l.take (q + 1) = l.take q ++ [x] := by
  obtain ⟨h1, rfl⟩ := List.getElem?_eq_some_iff.1 h
  exact List.take_succ_eq_append_getElem h1
theorem arr_at (d : Array α) (A Q T : List α) (h : d.toList = A ++ (Q ++ T)) (t : Nat) (ht : t < Q.length) : d[A.length + t]! = Q[t] := by
  have e := arr_get d (A ++ Q.take t) (Q.drop (t + 1) ++ T) Q[t] (by rw [h, List.append_assoc]; congr 1; rw [← List.cons_append, ← List.drop_eq_getElem_cons ht, ← List.append_assoc, List.take_append_drop])
  rw [List.length_append, List.length_take, Nat.min_eq_left (Nat.le_of_lt ht)] at e
  exact e
omit [Inhabited α] in
theorem mem_take_at {Q : List α} {n : Nat} {y : α} (h : y ∈ Q.take n) : ∃ t, t < n ∧ ∃ ht : t < Q.length, Q[t] = y := by
  obtain ⟨t, ht, e⟩ := List.getElem_of_mem h
  rw [List.length_take] at ht
  exact ⟨t, by omega, by omega, by rw [← e, List.getElem_take]⟩
omit [Inhabited α] in
theorem mem_drop_at {Q : List α} {n : Nat} {y : α} (h : y ∈ Q.drop n) : ∃ t, n ≤ t ∧ ∃ ht : t < Q.length, Q[t] = y := by
  obtain ⟨t, ht, e⟩ := List.getElem_of_mem h
  rw [List.length_drop] at ht
  exact ⟨n + t, by omega, by omega, by rw [← e, List.getElem_drop]⟩
/-- Keys along a run, by places of the array. -/
theorem run_mono {k : α → Int} {R : α → α → Prop} (d : Array α) (A Q T : List α) (h : d.toList = A ++ (Q ++ T)) (hr : Ris k R Q) (s t : Nat) (h1 : A.length ≤ s) (h2 : s ≤ t) (h3 : t < A.length + Q.length) : k d[s]! ≤ k d[t]! := by
  obtain ⟨s, rfl⟩ : ∃ u, s = A.length + u := ⟨s - A.length, by omega⟩
  obtain ⟨t, rfl⟩ : ∃ u, t = A.length + u := ⟨t - A.length, by omega⟩
  rw [arr_at d A Q T h s (by omega), arr_at d A Q T h t (by omega)]
  exact ris_key hr (show s ≤ t by omega) (List.getElem?_eq_getElem (by omega)) (List.getElem?_eq_getElem (by omega))
end
end Go.Proofs.Ythcjbljkokflgaa
namespace Go.Proofs.Ythcjbljkokflgaa
open Go.RowKit
open Go.Lib hiding intOf
open Go.Sort Go.Proofs
set_option linter.unusedVariables false
set_option linter.unusedSimpArgs false
set_option maxRecDepth 1000000
/-- What these functions ask of a program. -/
structure Bo (P : Program) (k : Nat) : Prop where
  mixed : P.follows .mixedOrders = true
  t0 : P.underlying 0 = some (TypeDesc.tuple #[])
  a0 : ∀ w, (isAgg 0).run P w = .ok false w
  z0 : ∀ w, (Go.sizeOf 0).run P w = .ok 1 w
  v0 : ∀ w, (zeroValue 0).run P w = .ok (Value.tuple #[]) w
  t1 : P.underlying 3 = some (TypeDesc.int .i64)
  a1 : ∀ w, (isAgg 3).run P w = .ok false w
  z1 : ∀ w, (Go.sizeOf 3).run P w = .ok 1 w
  v1 : ∀ w, (zeroValue 3).run P w = .ok (Value.int .i64 0) w
  t2 : P.underlying 4 = some (TypeDesc.bool)
  a2 : ∀ w, (isAgg 4).run P w = .ok false w
  z2 : ∀ w, (Go.sizeOf 4).run P w = .ok 1 w
  v2 : ∀ w, (zeroValue 4).run P w = .ok (Value.bool false) w
  t3 : P.underlying 40 = some (TypeDesc.slice 62)
  a3 : ∀ w, (isAgg 40).run P w = .ok false w
  z3 : ∀ w, (Go.sizeOf 40).run P w = .ok 1 w
  v3 : ∀ w, (zeroValue 40).run P w = .ok (Value.slice none 0 0) w
  t4 : P.underlying 100 = some (TypeDesc.func #[62, 62] #[3] false)
  a4 : ∀ w, (isAgg 100).run P w = .ok false w
  z4 : ∀ w, (Go.sizeOf 100).run P w = .ok 1 w
  v4 : ∀ w, (zeroValue 100).run P w = .ok (Value.nilFunc) w
  t5 : P.underlying 147 = some (TypeDesc.int .u64)
  a5 : ∀ w, (isAgg 147).run P w = .ok false w
  z5 : ∀ w, (Go.sizeOf 147).run P w = .ok 1 w
  v5 : ∀ w, (zeroValue 147).run P w = .ok (Value.int .u64 0) w
  aE : ∀ w, (isAgg 62).run P w = .ok true w
  zE : ∀ w, (Go.sizeOf 62).run P w = .ok k w
  f_sw : P.funcs[97]? = some Try.f97
  e_sw : ∀ args w, (callFunc 97 args).run P w = .ok (.enter 97 args) w
  f_ro : P.funcs[92]? = some Try.f92
  e_ro : ∀ args w, (callFunc 92 args).run P w = .ok (.enter 92 args) w
  f_sm : P.funcs[84]? = some Try.f84
  e_sm : ∀ args w, (callFunc 84 args).run P w = .ok (.enter 84 args) w
  f_st : P.funcs[70]? = some Try.f70
  e_st : ∀ args w, (callFunc 70 args).run P w = .ok (.enter 70 args) w
  f_is : P.funcs[83]? = some Try.f83
  e_is : ∀ args w, (callFunc 83 args).run P w = .ok (.enter 83 args) w
theorem bo_prog : Bo Try.prog 4 := ⟨by kernel_rfl, Try.underlying0, Try.isAgg0, Try.sizeOf0, Try.zeroValue0, Try.underlying3, Try.isAgg3, Try.sizeOf3, Try.zeroValue3, Try.underlying4, Try.isAgg4, Try.sizeOf4, Try.zeroValue4, Try.underlying40, Try.isAgg40, Try.sizeOf40, Try.zeroValue40, Try.underlying100, Try.isAgg100, Try.sizeOf100, Try.zeroValue100, Try.underlying147, Try.isAgg147, Try.sizeOf147, Try.zeroValue147, Try.isAgg62, Try.sizeOf62, Try.func97, Try.call97, Try.func92, Try.call92, Try.func84, Try.call84, Try.func70, Try.call70, Try.func83, Try.call83⟩
section
variable {α : Type} [Inhabited α]
set_option maxHeartbeats 4000000 in
theorem swapRange_any {P : Program} {k : Nat} (B : Bo P k) (enc : α → List Value) (blk off cap : Nat) (d0 : Array α) (w0 : World) (R : RowK enc k w0 blk off d0) (fv : Value) (d : Array α) (w : World) (hs : d0.size = d.size) (S0 : SWK enc k w0 blk off d w) (hsz : d.size < 4611686018427387904) (Pr X Y Z T : List α) (hz : Z.length = X.length) (h : d.toList = Pr ++ (X ++ (Y ++ (Z ++ T)))) (a b n : Nat) (ha : Pr.length = a) (hn : X.length = n) (hb : a + n + Y.length = b) :
    Calls P 97 #[.slice (some ⟨blk, off, none⟩) d.size cap, .int .i64 a, .int .i64 b, .int .i64 n, fv] w fun e w' => e = .returned (.tuple #[]) ∧ ∃ d' : Array α, d'.size = d.size ∧ d'.toList = Pr ++ (Z ++ (Y ++ (X ++ T))) ∧ SWK enc k w0 blk off d' w' := by
  have hlen : d.size = a + (n + (Y.length + (n + T.length))) := by rw [← Array.length_toList, h]; simp only [List.length_append]; omega
  have HS0 : Aside _ := S0
  have HH := Lib.hid h
  have HP := Lib.hid ha
  have HX := Lib.hid hn
  have HZ := Lib.hid hz
  have HB := Lib.hid hb
  clear S0 h ha hn hz
  have mixed := B.mixed; have t0 := B.t0; have a0 := B.a0; have z0 := B.z0; have v0 := B.v0; have t1 := B.t1; have a1 := B.a1; have z1 := B.z1; have v1 := B.v1; have t2 := B.t2; have a2 := B.a2; have z2 := B.z2; have v2 := B.v2; have t3 := B.t3; have a3 := B.a3; have z3 := B.z3; have v3 := B.v3; have t4 := B.t4; have a4 := B.a4; have z4 := B.z4; have v4 := B.v4; have t5 := B.t5; have a5 := B.a5; have z5 := B.z5; have v5 := B.v5; have aE := B.aE; have zE := B.zE
  go_enter B.f_sw, Try.ntmps97
  go_wp2
  go_loopw [10] (fun si wr => ∃ (i : Nat) (dk : Array α), si = .int .i64 i ∧ i ≤ n ∧ dk.size = d.size ∧ Aside (SWK enc k w0 blk off dk wr) ∧ Hid (dk.toList = Pr ++ ((Z.take i ++ X.drop i) ++ (Y ++ ((X.take i ++ Z.drop i) ++ T))))) (fun si _ => n - (intOf si).toNat)
  case atStart => exact ⟨0, d, rfl, Nat.zero_le _, rfl, HS0, by show _ = _; rw [HH.out]; simp⟩
  case round =>
    obtain ⟨i, dk, rfl, hi, hds, S1, HD⟩ := hrel
    clear HS0
    by_cases hlt : i < n
    · have hltz : (i : Int) < (n : Int) := by omega
      go_wp2_with fail
      have ea44 : ((a : Int) + (i : Int)).toNat = a + i := by omega
      have pa44 : (0 : Int) ≤ (a : Int) + (i : Int) := by omega
      have ba44 : (a : Int) + (i : Int) < (d.size : Int) := by omega
      have ra44 : IntKind.i64.wrap ((a : Int) + (i : Int)) = (a : Int) + (i : Int) := by rw [IntKind.wrap_i64]; omega
      have ec44 : ((b : Int) + (i : Int)).toNat = b + i := by omega
      have pc44 : (0 : Int) ≤ (b : Int) + (i : Int) := by omega
      have bc44 : (b : Int) + (i : Int) < (d.size : Int) := by omega
      have rc44 : IntKind.i64.wrap ((b : Int) + (i : Int)) = (b : Int) + (i : Int) := by rw [IntKind.wrap_i64]; omega
      have S2 : Aside (SWK enc k w0 blk off (swp dk (a + i) (b + i)) ((wr.drew.setCells blk (off + (a + i) * k) (enc dk[b + i]!)).setCells blk (off + (b + i) * k) (enc dk[a + i]!))) := S1.out.swapped R (a + i) (b + i) (by omega) (by omega)
      have l44a := S1.out.ld1 R (by omega) P (a + i) (by omega)
      have l44b := S1.out.ld1 R (by omega) P (b + i) (by omega)
      have s44a := S1.out.st1 R (by omega) P (a + i) (by omega) dk[b + i]!
      have s44b := S1.out.st2 R (by omega) P (a + i) (b + i) (by omega) (by omega) dk[b + i]! dk[a + i]!
      have n44a : (enc dk[a + i]!).length = k := R.hk _
      have n44b : (enc dk[b + i]!).length = k := R.hk _
      generalize enc dk[a + i]! = cI44 at S2 l44a s44b n44a
      generalize enc dk[b + i]! = cJ44 at S2 l44b s44a s44b n44b
      clear S1
      go_wp2_with fail
      go_big_region_o
      clear l44a l44b s44a s44b
      generalize (wr.drew.setCells blk (off + (a + i) * k) cJ44).setCells blk (off + (b + i) * k) cI44 = w2 at S2 ⊢
      have HD2 := swapRange_step dk Pr X Y Z T i (by rw [HX.out]; exact hlt) HZ.out HD.out
      rw [HP.out, HX.out, HB.out] at HD2
      have HD3 := Lib.hid HD2
      clear HD2
      go_wp2
      go_roundw
      case rel => exact ⟨i + 1, swp dk (a + i) (b + i), by go_num, by omega, by rw [size_swp]; exact hds, S2, HD3⟩
      case measure => simp [intOf]; omega
    · obtain rfl : i = n := by omega
      have H9 := Lib.hid (show dk.toList = Pr ++ (Z ++ (Y ++ (X ++ T))) by rw [HD.out, List.take_of_length_le (by rw [HZ.out, HX.out]; exact Nat.le_refl _), List.drop_of_length_le (by rw [HX.out]; exact Nat.le_refl _), List.take_of_length_le (by rw [HX.out]; exact Nat.le_refl _), List.drop_of_length_le (by rw [HZ.out, HX.out]; exact Nat.le_refl _), List.append_nil, List.append_nil])
      go_wp2
      go_end0
      exact ⟨rfl, dk, hds, H9.out, S1.out⟩
theorem swapRange_z {P : Program} {k : Nat} (B : Bo P k) (enc : α → List Value) (blk off cap : Nat) (d0 : Array α) (w0 : World) (R : RowK enc k w0 blk off d0) (fv : Value) (d : Array α) (w : World) (hs : d0.size = d.size) (S0 : SWK enc k w0 blk off d w) (hsz : d.size < 4611686018427387904) (Pr X Y Z T : List α) (hz : Z.length = X.length) (h : d.toList = Pr ++ (X ++ (Y ++ (Z ++ T)))) (n : Nat) (len az bz nz : Int) (hle : len = (d.size : Int)) (ha : az = (Pr.length : Int)) (hn : nz = (X.length : Int)) (hb : bz = ((Pr.length + X.length + Y.length : Nat) : Int)) :
    Calls P 97 #[.slice (some ⟨blk, off, none⟩) d.size cap, .int .i64 az, .int .i64 bz, .int .i64 nz, fv] w fun e w' => e = .returned (.tuple #[]) ∧ ∃ d' : Array α, d'.size = d.size ∧ d'.toList = Pr ++ (Z ++ (Y ++ (X ++ T))) ∧ SWK enc k w0 blk off d' w' := by
  subst ha hn hb
  exact swapRange_any B enc blk off cap d0 w0 R fv d w hs S0 hsz Pr X Y Z T hz h Pr.length _ X.length rfl rfl rfl
set_option maxHeartbeats 4000000 in
theorem rotate_any {P : Program} {k : Nat} (B : Bo P k) (enc : α → List Value) (blk off cap : Nat) (d0 : Array α) (w0 : World) (R : RowK enc k w0 blk off d0) (fv : Value) (d : Array α) (w : World) (hs : d0.size = d.size) (S0 : SWK enc k w0 blk off d w) (hsz : d.size < 4611686018427387904) (Pr L Q T : List α) (h : d.toList = Pr ++ (L ++ (Q ++ T))) (hL : 0 < L.length) (hQ : 0 < Q.length) (az mz bz : Int) (ha : az = (Pr.length : Int)) (hm : mz = ((Pr.length + L.length : Nat) : Int)) (hb : bz = ((Pr.length + L.length + Q.length : Nat) : Int)) :
    Calls P 92 #[.slice (some ⟨blk, off, none⟩) d.size cap, .int .i64 az, .int .i64 mz, .int .i64 bz, fv] w fun e w' => e = .returned (.tuple #[]) ∧ ∃ d' : Array α, d'.size = d.size ∧ d'.toList = Pr ++ (Q ++ (L ++ T)) ∧ SWK enc k w0 blk off d' w' := by
  have hlen : d.size = Pr.length + (L.length + (Q.length + T.length)) := by rw [← Array.length_toList, h]; simp only [List.length_append]
  have eI := B.e_sw
  obtain ⟨a, ea⟩ : ∃ a, Pr.length = a := ⟨_, rfl⟩
  obtain ⟨i0, ei⟩ : ∃ i, L.length = i := ⟨_, rfl⟩
  obtain ⟨j0, ej⟩ : ∃ j, Q.length = j := ⟨_, rfl⟩
  obtain ⟨m, em⟩ : ∃ m, a + i0 = m := ⟨_, rfl⟩
  rw [ea, ei] at hm hb hlen
  rw [ea] at ha
  rw [ej] at hb hlen
  rw [em] at hm hb
  rw [ei] at hL
  rw [ej] at hQ
  subst ha hm hb
  have HST := Lib.hid (show ∃ (Pc Lc Qc Tc : List α), Lc.length = i0 ∧ Qc.length = j0 ∧ d.toList = Pc ++ (Lc ++ (Qc ++ Tc)) ∧ Pc.length + i0 = m ∧ Pc ++ (Qc ++ (Lc ++ Tc)) = Pr ++ (Q ++ (L ++ T)) from ⟨Pr, L, Q, T, ei, ej, h, by omega, rfl⟩)
  have HS0 : Aside _ := S0
  have hz1 : ((m : Nat) : Int) - (a : Int) = (i0 : Int) := by omega
  have hz2 : ((m + j0 : Nat) : Int) - (m : Int) = (j0 : Int) := by omega
  have HZ1 := Lib.hid hz1
  have HZ2 := Lib.hid hz2
  have bm : m + j0 ≤ d.size := by omega
  have bi : i0 ≤ m := by omega
  have ba : a ≤ m := by omega
  have HEM := Lib.hid em
  clear S0 h ea ei ej em hz1 hz2 hlen
  have mixed := B.mixed; have t0 := B.t0; have a0 := B.a0; have z0 := B.z0; have v0 := B.v0; have t1 := B.t1; have a1 := B.a1; have z1 := B.z1; have v1 := B.v1; have t2 := B.t2; have a2 := B.a2; have z2 := B.z2; have v2 := B.v2; have t3 := B.t3; have a3 := B.a3; have z3 := B.z3; have v3 := B.v3; have t4 := B.t4; have a4 := B.a4; have z4 := B.z4; have v4 := B.v4; have t5 := B.t5; have a5 := B.a5; have z5 := B.z5; have v5 := B.v5; have aE := B.aE; have zE := B.zE
  go_enter B.f_ro, Try.ntmps92
  go_wp2
  go_loopw [10, 11] (fun si sj wr => ∃ (i j : Nat) (dk : Array α), si = .int .i64 i ∧ sj = .int .i64 j ∧ 0 < i ∧ 0 < j ∧ i ≤ m ∧ m + j ≤ d.size ∧ dk.size = d.size ∧ Aside (SWK enc k w0 blk off dk wr) ∧ Hid (∃ (Pc Lc Qc Tc : List α), Lc.length = i ∧ Qc.length = j ∧ dk.toList = Pc ++ (Lc ++ (Qc ++ Tc)) ∧ Pc.length + i = m ∧ Pc ++ (Qc ++ (Lc ++ Tc)) = Pr ++ (Q ++ (L ++ T)))) (fun si sj _ => (intOf si).toNat + (intOf sj).toNat)
  case atStart => exact ⟨i0, j0, d, by rw [HZ1.out], by congr 1 <;> omega, hL, hQ, bi, bm, rfl, HS0, HST⟩
  case round =>
    obtain ⟨i, j, dk, rfl, rfl, hi0, hj0, him, hjm, hds, S1, HD⟩ := hrel
    clear HS0 HST bi bm hL hQ HZ1 HZ2
    have hs2 := hds.symm
    obtain ⟨Pc, Lc, Qc, Tc, e1, e2, e3, e4, e5⟩ := HD.out
    clear HD
    rcases Nat.lt_trichotomy i j with hlt | heq | hgt
    · have q1 : ((i : Int) != (j : Int)) = true := by simp; omega
      have q2 : ¬ (i : Int) > (j : Int) := by omega
      have HC := Lib.hid (fun (az bz : Int) (h1 : az = (m : Int) - (i : Int)) (h2 : bz = (m : Int) + (j : Int) - (i : Int)) => swapRange_z B enc blk off cap d0 w0 R fv dk wr (by omega) S1.out (by omega) Pc Lc (Qc.take (j - i)) (Qc.drop (j - i)) Tc (by rw [List.length_drop]; omega) (by rw [e3, ← List.append_assoc (Qc.take _), List.take_append_drop]) 0 _ az bz (i : Int) rfl (by omega) (by omega) (by rw [List.length_take]; omega))
      have HN := Lib.hid (fun (d' : Array α) (hd : d'.toList = Pc ++ (Qc.drop (j - i) ++ (Qc.take (j - i) ++ (Lc ++ Tc)))) => show ∃ (Pc Lc Qc Tc : List α), Lc.length = i ∧ Qc.length = j - i ∧ d'.toList = Pc ++ (Lc ++ (Qc ++ Tc)) ∧ Pc.length + i = m ∧ Pc ++ (Qc ++ (Lc ++ Tc)) = Pr ++ (Q ++ (L ++ T)) from ⟨Pc, Qc.drop (j - i), Qc.take (j - i), Lc ++ Tc, by rw [List.length_drop]; omega, by rw [List.length_take]; omega, hd, e4, by rw [← e5, ← List.append_assoc (Qc.take _), List.take_append_drop]⟩)
      rw [hds] at HC
      clear e1 e2 e3 e4 e5 S1 hs2
      go_wp2_with fail
      refine (HC.out _ _ (by omega) (by omega)).mono ?_
      rintro _ w2 ⟨rfl, d', f1, f2, f3⟩
      have S2 : Aside _ := f3
      have HN2 := Lib.hid (HN.out d' f2)
      have ej2 : (j : Int) - (i : Int) = ((j - i : Nat) : Int) := by omega
      have HE := Lib.hid ej2
      clear f2 f3 HN HC ej2
      go_wp2
      go_roundw
      case rel =>
        repeat apply Exists.intro
        exact ⟨⟨i, j - i, d', rfl, by rw [HE.out], hi0, by omega, him, by omega, by omega, S2, HN2⟩, rfl⟩
      case measure => simp [intOf]; omega
    · subst heq
      have HC := Lib.hid (fun (az : Int) (h1 : az = (m : Int) - (i : Int)) => swapRange_z B enc blk off cap d0 w0 R fv dk wr (by omega) S1.out (by omega) Pc Lc [] Qc Tc (by omega) (by rw [e3]; rfl) 0 _ az (m : Int) (i : Int) rfl (by omega) (by omega) (by simp; omega))
      have HN := Lib.hid (fun (d' : Array α) (hd : d'.toList = Pc ++ (Qc ++ ([] ++ (Lc ++ Tc)))) => show d'.toList = Pr ++ (Q ++ (L ++ T)) by rw [hd, ← e5]; rfl)
      rw [hds] at HC
      clear e1 e2 e3 e4 e5 S1 hs2
      have q1 : ((i : Int) != (i : Int)) = false := by simp
      go_wp2_with fail
      refine (HC.out _ (by omega)).mono ?_
      rintro _ w2 ⟨rfl, d', f1, f2, f3⟩
      have S2 : Aside _ := f3
      have HN2 := Lib.hid (HN.out d' f2)
      clear f2 f3 HN HC
      go_wp2
      go_end0
      exact ⟨rfl, d', f1, HN2.out, S2.out⟩
    · have q1 : ((i : Int) != (j : Int)) = true := by simp; omega
      have q2 : (i : Int) > (j : Int) := by omega
      have HC := Lib.hid (fun (az : Int) (h1 : az = (m : Int) - (i : Int)) => swapRange_z B enc blk off cap d0 w0 R fv dk wr (by omega) S1.out (by omega) Pc (Lc.take j) (Lc.drop j) Qc Tc (by rw [List.length_take]; omega) (by rw [e3, ← List.append_assoc (Lc.take _), List.take_append_drop]) 0 _ az (m : Int) (j : Int) rfl (by omega) (by rw [List.length_take]; omega) (by rw [List.length_take, List.length_drop]; omega))
      have HN := Lib.hid (fun (d' : Array α) (hd : d'.toList = Pc ++ (Qc ++ (Lc.drop j ++ (Lc.take j ++ Tc)))) => show ∃ (Pc Lc Qc Tc : List α), Lc.length = i - j ∧ Qc.length = j ∧ d'.toList = Pc ++ (Lc ++ (Qc ++ Tc)) ∧ Pc.length + (i - j) = m ∧ Pc ++ (Qc ++ (Lc ++ Tc)) = Pr ++ (Q ++ (L ++ T)) from ⟨Pc ++ Qc, Lc.drop j, Lc.take j, Tc, by rw [List.length_drop]; omega, by rw [List.length_take]; omega, by rw [hd]; simp only [List.append_assoc], by rw [List.length_append]; omega, by rw [← e5, ← List.append_assoc (Lc.take _), List.take_append_drop, List.append_assoc]⟩)
      rw [hds] at HC
      clear e1 e2 e3 e4 e5 S1 hs2
      go_wp2_with fail
      refine (HC.out _ (by omega)).mono ?_
      rintro _ w2 ⟨rfl, d', f1, f2, f3⟩
      have S2 : Aside _ := f3
      have HN2 := Lib.hid (HN.out d' f2)
      have ej2 : (i : Int) - (j : Int) = ((i - j : Nat) : Int) := by omega
      have HE := Lib.hid ej2
      clear f2 f3 HN HC ej2
      go_wp2
      go_roundw
      case rel =>
        repeat apply Exists.intro
        exact ⟨⟨i - j, j, d', by rw [HE.out], rfl, by omega, hj0, by omega, hjm, by omega, S2, HN2⟩, rfl⟩
      case measure => simp [intOf]; omega
end
end Go.Proofs.Ythcjbljkokflgaa
