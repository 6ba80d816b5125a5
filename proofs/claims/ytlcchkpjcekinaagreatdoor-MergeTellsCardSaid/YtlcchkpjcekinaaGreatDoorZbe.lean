/- the document's own Three. -/
import Derived.BigQuiet
import Derived.Test.YtlcchkpjcekinaaGreatDoorZbd
import Derived.Laws.AppendOwnNone
/- the document's own only, same. -/
namespace Go.Proofs.YtlcchkpjcekinaaGreatDoor
open Go.RowKit
open Go.Lib hiding intOf
open Go.Sort Go.Proofs
set_option linter.unusedVariables false
set_option linter.unusedSimpArgs false
set_option maxRecDepth 100000
def onlyR (k : Int) : List F3 → List F3
  | [] => []
  | f :: L => if f.1 = k then [f] else onlyR k L
theorem onlyR_drop {k : Int} {L : List F3} {q : Nat} {f : F3} (h : L[q]? = some f) : onlyR k (L.drop q) = if f.1 = k then [f] else onlyR k (L.drop (q + 1)) := by
  have hl := (List.getElem?_eq_some_iff.1 h).1
  have he := (List.getElem?_eq_some_iff.1 h).2
  rw [List.drop_eq_getElem_cons hl, he]
  rfl
theorem onlyR_is {k : Int} : ∀ {L : List F3}, (∀ f ∈ L, f ≠ zF) → onlyR k L = if onlyF k L = zF then [] else [onlyF k L]
  | [], _ => by unfold onlyR onlyF; rw [if_pos rfl]
  | f :: L, h => by
    unfold onlyR onlyF
    by_cases hk : f.1 = k
    · rw [if_pos hk, if_pos hk, if_neg (h f List.mem_cons_self)]
    · rw [if_neg hk, if_neg hk]
      exact onlyR_is fun g hg => h g (List.mem_cons_of_mem _ hg)
theorem onlyR_len (k : Int) : ∀ L : List F3, (onlyR k L).length ≤ 1
  | [] => Nat.zero_le _
  | f :: L => by
    unfold onlyR
    split
    · exact Nat.le_refl _
    · exact onlyR_len k L
set_option maxHeartbeats 4000000 in
theorem ronly_any {w : World} {A : Option Addr} {cap b off : Nat} {L : List F3} (h : Fv w A cap b off L) (n : Nat) (hn : L.length = n) (hs : n ≤ 100000) (k : Int) (R : List F3) (hr : onlyR k L = R) (m : Nat) (hm : R.length = m) : Calls Tryz.prog 24 #[.slice A n cap, .int .i64 k] w fun e w' => ∃ A' c g, e = .returned (.slice A' m c) ∧ Fv w' A' c g 0 R ∧ (A' = none → c = 0) ∧ Below w.heap.size w w' := by
  have H := Lib.hid h
  have HN := Lib.hid hn
  have HR := Lib.hid hr
  have HM := Lib.hid hm
  clear h hn hr hm
  go_enter Tryz.func24, Tryz.ntmps24
  go_wp2_with fail
  go_loopw [5] (fun i wr => ∃ q : Nat, q ≤ n ∧ i = .int .i64 (q : Int) ∧ onlyR k (L.drop q) = R ∧ wr = w) (fun i _ => n - (intOf i).toNat)
  case atStart => exact ⟨0, Nat.zero_le _, rfl, HR.out, rfl⟩
  case round =>
    obtain ⟨q, hq, rfl, ht, hw⟩ := hrel
    subst hw
    have HT := Lib.hid ht
    clear ht
    by_cases hql : q < n
    · obtain ⟨f, hf⟩ : ∃ f, L[q]? = some f := ⟨L[q]'(by rw [HN.out]; exact hql), List.getElem?_eq_getElem _⟩
      obtain ⟨rfl, _, c0, c1, c2⟩ := H.out.2 q f hf
      have hst := onlyR_drop (k := k) hf
      rw [HT.out] at hst
      obtain ⟨f1, f2, f3⟩ := f
      simp only at c0 c1 c2 hst
      have hqI : (q : Int) < (n : Int) := by omega
      have hqJ : (0 : Int) ≤ (q : Int) := by omega
      have i1 : IntKind.i64.wrap ((q : Int) + 1) = ((q + 1 : Nat) : Int) := by rw [IntWalk.i64_in _ (by omega)]; omega
      clear hf
      by_cases he : f1 = k
      · rw [if_pos he] at hst
        have heb : (f1 == k) = true := by simpa using he
        have HST := Lib.hid hst
        have HY := Lib.hid (Blk.new wr 37 #[.int .i64 f1, .int .i64 f2, .string f3])
        clear he hst
        go_wp2_with fail
        go_ret
        have hm := HM.out
        rw [HST.out] at hm ⊢
        obtain rfl : 1 = m := hm
        refine ⟨_, _, wr.heap.size, rfl, ⟨by simp, fun j g hj => ?_⟩, (fun h => by cases h), (Below.refl _ _).alloc (Nat.le_refl _) _⟩
        match j, hj with
        | 0, hj => cases hj; exact ⟨rfl, HY.out.lt, HY.out.cell 0, HY.out.cell 1, HY.out.cell 2⟩
        | j + 1, hj => simp at hj
      · rw [if_neg he] at hst
        have heb : (f1 == k) = false := by simpa using he
        have HST := Lib.hid hst
        clear he hst
        go_wp2_with fail
        go_roundw
        case rel => exact ⟨q + 1, by omega, by go_num, HST.out.symm, trivial⟩
        case measure => simp [intOf]; omega
    · have hqe : q = n := by omega
      have hqI : ¬ (q : Int) < (n : Int) := by omega
      have HE := Lib.hid (show R = [] from by rw [← HT.out, hqe, ← HN.out, List.drop_length]; rfl)
      clear hql hqe
      go_wp2
      go_ret
      have hm := HM.out
      rw [HE.out] at hm ⊢
      obtain rfl : 0 = m := hm
      exact ⟨none, 0, rfl, ⟨0, fv_nil _ _ _ _⟩, fun _ => rfl, Below.refl _ _⟩
set_option maxHeartbeats 4000000 in
theorem rsame_any {w : World} {P Q : Option Addr} {c d g b : Nat} {A B : List F3} (hA : Fv w P c g 0 A) (hB : Fv w Q d b 0 B) (n m : Nat) (hn : A.length = n) (hm : B.length = m) (hn1 : n ≤ 1) (hm1 : m ≤ 1) : Calls Tryz.prog 25 #[.slice P n c, .slice Q m d] w fun e w' => e = .returned (.bool (decide (A = B))) ∧ Below w.heap.size w w' := by
  match A, B, hn, hm with
  | [], [], hn, hm =>
    obtain rfl : 0 = n := hn
    obtain rfl : 0 = m := hm
    clear hA hB hn hm
    go_enter Tryz.func25, Tryz.ntmps25
    go_wp2_with fail
    go_quiet (fail)
    go_wp2
    go_ret
    exact ⟨rfl, ⟨rfl, rfl, rfl, Nat.le_refl _, fun _ _ => rfl⟩⟩
  | [], [y], hn, hm =>
    obtain rfl : 0 = n := hn
    obtain rfl : 1 = m := hm
    clear hA hB hn hm
    go_enter Tryz.func25, Tryz.ntmps25
    go_wp2_with fail
    go_quiet (fail)
    go_wp2
    go_ret
    exact ⟨rfl, ⟨rfl, rfl, rfl, Nat.le_refl _, fun _ _ => rfl⟩⟩
  | [x], [], hn, hm =>
    obtain rfl : 1 = n := hn
    obtain rfl : 0 = m := hm
    clear hA hB hn hm
    go_enter Tryz.func25, Tryz.ntmps25
    go_wp2_with fail
    go_quiet (fail)
    go_wp2
    go_ret
    exact ⟨rfl, ⟨rfl, rfl, rfl, Nat.le_refl _, fun _ _ => rfl⟩⟩
  | [(x1, x2, x3)], [(y1, y2, y3)], hn, hm =>
    obtain rfl : 1 = n := hn
    obtain rfl : 1 = m := hm
    obtain ⟨rfl, _, a0, a1, a2⟩ := hA.2 0 _ rfl
    obtain ⟨rfl, _, b0, b1, b2⟩ := hB.2 0 _ rfl
    simp only [Nat.zero_add, Nat.zero_mul] at a0 a1 a2 b0 b1 b2
    obtain ⟨r, hr⟩ : ∃ r, decide (([(x1, x2, x3)] : List F3) = [(y1, y2, y3)]) = r := ⟨_, rfl⟩
    have hr2 : decide (((x1, x2, x3) : F3) = (y1, y2, y3)) = r := by rw [← hr]; simp
    have heq : ∀ wq, Sem.run Tryz.prog (binOp .eql 37 (.agg #[.int .i64 x1, .int .i64 x2, .string x3]) (.agg #[.int .i64 y1, .int .i64 y2, .string y3])) wq = .ok (.bool r) wq := fun wq => by have := eqF_run (x1, x2, x3) (y1, y2, y3) wq; rw [hr2] at this; exact this
    rw [hr]
    clear hA hB hn hm hr hr2
    go_enter Tryz.func25, Tryz.ntmps25
    go_wp2_with fail
    go_quiet (fail)
    go_wp2
    go_ret
    exact ⟨rfl, ⟨rfl, rfl, rfl, Nat.le_refl _, fun _ _ => rfl⟩⟩
  | _ :: _ :: _, _, hn, _ => simp at hn; omega
  | _, _ :: _ :: _, _, hm => simp at hm; omega
end Go.Proofs.YtlcchkpjcekinaaGreatDoor
/- the maths of the document's own Three. -/
namespace Go.Proofs.YtlcchkpjcekinaaGreatDoor
open Go.RowKit
open Go.Lib hiding intOf
open Go.Sort Go.Proofs
set_option linter.unusedVariables false
set_option linter.unusedSimpArgs false
set_option maxRecDepth 100000
def pK (W X Y : List F3) (k : Int) (f : F3) : Bool := decide (f.1 = k) && ((hasF f X && hasF f Y) || !hasF f W)
def rst (W X Y : List F3) (s : List F3 × Nat) (k : Int) : List F3 × Nat :=
  if k = 3 ∨ k = 4 ∨ k = 6 then (s.1 ++ (X ++ Y).filter (pK W X Y k), s.2)
  else if onlyR k X = onlyR k W then (s.1 ++ onlyR k Y, s.2)
  else if onlyR k Y = onlyR k W ∨ onlyR k X = onlyR k Y then (s.1 ++ onlyR k X, s.2)
  else (s.1 ++ onlyR k X, s.2 + 1)
abbrev kinds6 : List Int := [1, 2, 3, 4, 5, 6]
def rthr (W X Y : List F3) (q : Nat) : List F3 × Nat := (kinds6.take q).foldl (rst W X Y) ([], 0)
theorem rthr_step {W X Y : List F3} {q : Nat} {k : Int} (h : kinds6[q]? = some k) : rthr W X Y (q + 1) = rst W X Y (rthr W X Y q) k := by
  unfold rthr
  rw [List.take_add_one, h, List.foldl_append]
  rfl
theorem onlyR_eq {A B : List F3} (hA : ∀ f ∈ A, f ≠ zF) (hB : ∀ f ∈ B, f ≠ zF) (k : Int) : onlyR k A = onlyR k B ↔ onlyF k A = onlyF k B := by
  rw [onlyR_is hA, onlyR_is hB]
  constructor
  · intro h
    by_cases h1 : onlyF k A = zF <;> by_cases h2 : onlyF k B = zF
    · rw [h1, h2]
    · rw [if_pos h1, if_neg h2] at h; cases h
    · rw [if_neg h1, if_pos h2] at h; cases h
    · rw [if_neg h1, if_neg h2] at h; exact List.cons.inj h |>.1
  · intro h; rw [h]
theorem onlyR_mem {A : List F3} (hA : ∀ f ∈ A, f ≠ zF) (k : Int) (x : F3) : x ∈ onlyR k A ↔ onlyF k A ≠ zF ∧ x = onlyF k A := by
  rw [onlyR_is hA]
  by_cases h1 : onlyF k A = zF
  · rw [if_pos h1]; simp [h1]
  · rw [if_neg h1]; simp [h1]
theorem thr1_all {W X Y : List F3} {s : List F3 × Nat} {k : Int} {r : F3} {c : Bool} (ho : oneF (onlyF k W) (onlyF k X) (onlyF k Y) = (r, c)) : (thr1 W X Y s k).2 = (if c then s.2 + 1 else s.2) ∧ ∀ x, x ∈ (thr1 W X Y s k).1 ↔ x ∈ s.1 ∨ (r ≠ zF ∧ x = r) := by
  unfold thr1
  rw [ho]
  refine ⟨rfl, fun x => ?_⟩
  simp only
  by_cases hz : r = zF
  · rw [if_pos hz]; simp [hz]
  · rw [if_neg hz, List.mem_append, List.mem_singleton]; simp [hz]
theorem rst_once {W X Y : List F3} (hW : ∀ f ∈ W, f ≠ zF) (hX : ∀ f ∈ X, f ≠ zF) (hY : ∀ f ∈ Y, f ≠ zF) {s : List F3 × Nat} {k : Int} (hk : ¬ (k = 3 ∨ k = 4 ∨ k = 6)) {r : F3} {c : Bool} (ho : oneF (onlyF k W) (onlyF k X) (onlyF k Y) = (r, c)) :
    (rst W X Y s k).2 = (if c then s.2 + 1 else s.2) ∧ ∀ x, x ∈ (rst W X Y s k).1 ↔ x ∈ s.1 ∨ (r ≠ zF ∧ x = r) := by
  unfold rst
  rw [if_neg hk]
  simp only [onlyR_eq hX hW, onlyR_eq hY hW, onlyR_eq hX hY]
  unfold oneF at ho
  by_cases h1 : onlyF k X = onlyF k W
  · rw [if_pos h1] at ho ⊢
    cases ho
    exact ⟨rfl, fun x => by rw [List.mem_append, onlyR_mem hY]⟩
  · rw [if_neg h1] at ho ⊢
    by_cases h2 : onlyF k Y = onlyF k W ∨ onlyF k X = onlyF k Y
    · rw [if_pos h2]
      have hc : (!decide (onlyF k Y = onlyF k W) && !decide (onlyF k X = onlyF k Y)) = false := by
        rcases h2 with h | h <;> simp [h]
      rw [hc] at ho
      cases ho
      exact ⟨rfl, fun x => by rw [List.mem_append, onlyR_mem hX]⟩
    · rw [if_neg h2]
      have hc : (!decide (onlyF k Y = onlyF k W) && !decide (onlyF k X = onlyF k Y)) = true := by
        have h3 : ¬ onlyF k Y = onlyF k W := fun h => h2 (.inl h)
        have h4 : ¬ onlyF k X = onlyF k Y := fun h => h2 (.inr h)
        simp [h3, h4]
      rw [hc] at ho
      cases ho
      exact ⟨rfl, fun x => by rw [List.mem_append, onlyR_mem hX]⟩
theorem rst_many {W X Y : List F3} {s : List F3 × Nat} {k : Int} (hk : k = 3 ∨ k = 4 ∨ k = 6) : (rst W X Y s k).2 = s.2 ∧ ∀ x, x ∈ (rst W X Y s k).1 ↔ x ∈ s.1 ∨ (x.1 = k ∧ ((x ∈ X ∧ x ∈ Y) ∨ (x ∈ X ∧ x ∉ W) ∨ (x ∈ Y ∧ x ∉ W))) := by
  unfold rst
  rw [if_pos hk]
  refine ⟨rfl, fun x => ?_⟩
  rw [List.mem_append, List.mem_filter, List.mem_append]
  unfold pK
  simp only [Bool.and_eq_true, Bool.or_eq_true, Bool.not_eq_true', hasF_iff, hasF_false, decide_eq_true_eq]
  by_cases h1 : x ∈ X <;> by_cases h2 : x ∈ Y <;> by_cases h3 : x ∈ W <;> simp [h1, h2, h3]
theorem rthr_is {W X Y : List F3} (hW : ∀ f ∈ W, f ≠ zF) (hX : ∀ f ∈ X, f ≠ zF) (hY : ∀ f ∈ Y, f ≠ zF) : (rthr W X Y 6).2 = (thrL W X Y 3).2 ∧ ∀ x, x ∈ (rthr W X Y 6).1 ↔ x ∈ (thrL W X Y 3).1 := by
  obtain ⟨r1, c1, h1⟩ : ∃ r c, oneF (onlyF 1 W) (onlyF 1 X) (onlyF 1 Y) = (r, c) := ⟨_, _, rfl⟩
  obtain ⟨r2, c2, h2⟩ : ∃ r c, oneF (onlyF 2 W) (onlyF 2 X) (onlyF 2 Y) = (r, c) := ⟨_, _, rfl⟩
  obtain ⟨r5, c5, h5⟩ : ∃ r c, oneF (onlyF 5 W) (onlyF 5 X) (onlyF 5 Y) = (r, c) := ⟨_, _, rfl⟩
  have e : thrL W X Y 3 = thr1 W X Y (thr1 W X Y (thr1 W X Y (manyL W X Y, 0) 1) 2) 5 := rfl
  have e6 : rthr W X Y 6 = rst W X Y (rst W X Y (rst W X Y (rst W X Y (rst W X Y (rst W X Y ([], 0) 1) 2) 3) 4) 5) 6 := rfl
  rw [e, e6]
  generalize ha : rst W X Y ([], 0) 1 = s1
  generalize hb : rst W X Y s1 2 = s2
  generalize hc : rst W X Y s2 3 = s3
  generalize hd : rst W X Y s3 4 = s4
  generalize he : rst W X Y s4 5 = s5
  generalize hf : rst W X Y s5 6 = s6
  generalize hg : thr1 W X Y (manyL W X Y, 0) 1 = t1
  generalize hh : thr1 W X Y t1 2 = t2
  generalize hi : thr1 W X Y t2 5 = t3
  have k1 := rst_once hW hX hY (s := ([], 0)) (k := 1) (by decide) h1
  have k2 := rst_once hW hX hY (s := s1) (k := 2) (by decide) h2
  have k3 := rst_many (W := W) (X := X) (Y := Y) (s := s2) (k := 3) (by decide)
  have k4 := rst_many (W := W) (X := X) (Y := Y) (s := s3) (k := 4) (by decide)
  have k5 := rst_once hW hX hY (s := s4) (k := 5) (by decide) h5
  have k6 := rst_many (W := W) (X := X) (Y := Y) (s := s5) (k := 6) (by decide)
  have j1 := thr1_all (s := (manyL W X Y, 0)) h1
  have j2 := thr1_all (s := t1) h2
  have j3 := thr1_all (s := t2) h5
  rw [ha] at k1
  rw [hb] at k2
  rw [hc] at k3
  rw [hd] at k4
  rw [he] at k5
  rw [hf] at k6
  rw [hg] at j1
  rw [hh] at j2
  rw [hi] at j3
  refine ⟨?_, fun x => ?_⟩
  · rw [k6.1, k5.1, k4.1, k3.1, k2.1, k1.1, j3.1, j2.1, j1.1]
  · rw [k6.2, k5.2, k4.2, k3.2, k2.2, k1.2, j3.2, j2.2, j1.2, manyL_iff]
    have hs : sev x.1 = true ↔ (x.1 = 3 ∨ x.1 = 4 ∨ x.1 = 6) := by
      unfold sev
      simp only [Bool.or_eq_true, beq_iff_eq, or_assoc]
    rw [hs]
    simp only [List.not_mem_nil, false_or]
    generalize ((x ∈ X ∧ x ∈ Y) ∨ (x ∈ X ∧ x ∉ W) ∨ (x ∈ Y ∧ x ∉ W)) = M
    constructor
    · rintro (((((h | h) | ⟨h, hM⟩) | ⟨h, hM⟩) | h) | ⟨h, hM⟩)
      · exact .inl (.inl (.inr h))
      · exact .inl (.inr h)
      · exact .inl (.inl (.inl ⟨.inl h, hM⟩))
      · exact .inl (.inl (.inl ⟨.inr (.inl h), hM⟩))
      · exact .inr h
      · exact .inl (.inl (.inl ⟨.inr (.inr h), hM⟩))
    · rintro (((⟨h | h | h, hM⟩ | h) | h) | h)
      · exact .inl (.inl (.inl (.inr ⟨h, hM⟩)))
      · exact .inl (.inl (.inr ⟨h, hM⟩))
      · exact .inr ⟨h, hM⟩
      · exact .inl (.inl (.inl (.inl (.inl h))))
      · exact .inl (.inl (.inl (.inl (.inr h))))
      · exact .inl (.inr h)
/-- Fields that are canonical: the text hangs on what is in the list alone, errors too. -/
theorem txtL_cnn {L M : List F3} (hL : ∀ f ∈ L, Cnn f) (hM : ∀ f ∈ M, Cnn f) (h : ∀ x, x ∈ L ↔ x ∈ M) : txtL L = txtL M := by
  rcases canL_same h with ⟨_, _, he⟩ | ⟨h1, _⟩
  · unfold txtL; rw [he]
  · exact absurd (cnn_all hL).1 h1
theorem fv_keep {w w' : World} {A : Option Addr} {cap b off : Nat} {L : List F3} (h : Fv w A cap b off L) (hs : w.heap.size ≤ w'.heap.size) (hk : w'.heap[b]? = w.heap[b]?) : Fv w' A cap b off L :=
  ⟨h.1, fun j f hj => by
    obtain ⟨h1, h2, h3, h4, h5⟩ := h.2 j f hj
    have hc : ∀ o, w'.cell? ⟨b, o, none⟩ = w.cell? ⟨b, o, none⟩ := fun o => World.cell?_of_block (w := w) hk
    exact ⟨h1, Nat.lt_of_lt_of_le h2 hs, by rw [hc]; exact h3, by rw [hc]; exact h4, by rw [hc]; exact h5⟩⟩
end Go.Proofs.YtlcchkpjcekinaaGreatDoor
/- appends of slices of fields. -/
namespace Go.Proofs.YtlcchkpjcekinaaGreatDoor
open Go.RowKit
open Go.Lib hiding intOf
open Go.Sort Go.Proofs
set_option linter.unusedVariables false
set_option linter.unusedSimpArgs false
set_option maxRecDepth 100000
theorem encL_len (M : List F3) : (encL M).length = M.length * 3 := by
  induction M with
  | nil => rfl
  | cons f M ih =>
    have e : encL (f :: M) = encF f ++ encL M := by unfold encL; simp
    rw [e, List.length_append, ih, List.length_cons]
    show 3 + _ = _
    omega
/-- 'append(s, x...)' of fields, x nil or not; where the row lies behind it. -/
theorem fr3_any {P : Program} {ops : Array Oper} {rest : List Oper} {o : Oper} {a : Act} {Q : Exit → Act → World → Prop} (w : World) (hgd : o.guard = none) (s x : Operand) (t : TypeId)
    (ho : o.op = .call { callee := .builtin .append, args := #[s, x], argTypes := #[t, t] }) (ht : P.underlying t = some (.slice 37)) (hinf : (P.info? 37).map (fun i => (i.zero, i.size, i.bytes)) = some (some (.agg #[.int .i64 0, .int .i64 0, .string ⟨#[]⟩]), 3, 32))
    (B : Nat) (V : Value) (n : Nat) (L : List F3) (hs : a.eval s = V) (h : Fr3 w B V n L) (A : Option Addr) (m c g : Nat) (M : List F3) (hm : M.length = m) (hx : a.eval x = .slice A m c) (hF : Fv w A c g 0 M) (hc0 : A = none → c = 0) (hn : n + m ≤ 1000000) (hB : B ≤ w.heap.size)
    (hK : ∀ V' w', Fr3 w' B V' (n + m) (L ++ M) → w.grownBy w' V.ownBlock → (V'.ownBlock = V.ownBlock ∨ V'.ownBlock = some w.heap.size) → wpList P ops Q rest (a.put o.dst V') w') : wpList P ops Q (o :: rest) a w := by
  obtain ⟨i, hi, hz, hsz, hby⟩ := info_of hinf
  cases A with
  | none =>
    have hM : M = [] := by
      cases M with
      | nil => rfl
      | cons f L => obtain ⟨e, _⟩ := hF.2 0 f rfl; cases e
    subst hM
    obtain rfl : 0 = m := hm
    obtain rfl := hc0 rfl
    refine wpList_append_own_none hgd s x t ho B 37 i 3 ht hi V n (encL L) hs h hx ?_
    exact hK V w (by rw [List.append_nil]; exact h) (World.grownBy.refl _ _) (.inl rfl)
  | some ad =>
    have hcells : ∀ j u, (encL M)[j]? = some u → w.cell? (ad.add j) = some u := fun j u hj => by
      cases M with
      | nil => cases hj
      | cons f L =>
        obtain ⟨e, _⟩ := hF.2 0 f rfl
        cases e
        have := fv_cells hF 0 j u hj
        rw [Nat.zero_mul, Nat.add_zero] at this
        exact this
    refine wpList_append_own_at (w := w) hgd s x t ho B 37 i _ 3 32 ht hi hz hsz hby rfl (by decide) V n (encL L) hs h ad m c (encL M) hx (by rw [encL_len, hm]) hcells ?c2 ?c3 ?c4 hB ?_
    case c2 =>
      intro y hy
      unfold encL at hy
      rw [List.mem_flatten] at hy
      obtain ⟨l, h1, h2⟩ := hy
      rw [List.mem_map] at h1
      obtain ⟨f, _, rfl⟩ := h1
      unfold encF at h2
      simp at h2
      rcases h2 with rfl | rfl | rfl <;> rfl
    case c3 => unfold maxLen; omega
    case c4 => omega
    intro v' w' h1 h2 _ h4
    refine hK v' w' ?_ h2 h4
    unfold Fr3
    rw [encL_append]
    exact h1
end Go.Proofs.YtlcchkpjcekinaaGreatDoor
namespace Go.Proofs.YtlcchkpjcekinaaGreatDoor
open Go.RowKit
open Go.Lib hiding intOf
open Go.Sort Go.Proofs
set_option linter.unusedVariables false
set_option linter.unusedSimpArgs false
set_option maxRecDepth 100000
theorem onlyR_le (k : Int) (L : List F3) : (onlyR k L).length ≤ 1 := onlyR_len k L
theorem rst_len {W X Y : List F3} {s : List F3 × Nat} {k : Int} : (rst W X Y s k).1.length ≤ s.1.length + (X.length + Y.length + 1) ∧ (rst W X Y s k).2 ≤ s.2 + 1 := by
  have h1 := onlyR_len k X
  have h2 := onlyR_len k Y
  have h3 := List.length_filter_le (pK W X Y k) (X ++ Y)
  rw [List.length_append] at h3
  unfold rst
  constructor
  · split
    · rw [List.length_append]; omega
    · split
      · rw [List.length_append]; omega
      · split
        · rw [List.length_append]; omega
        · rw [List.length_append]; omega
  · split
    · omega
    · split
      · omega
      · split
        · omega
        · omega
theorem rthr_len {W X Y : List F3} : ∀ q, q ≤ 6 → (rthr W X Y q).1.length ≤ q * (X.length + Y.length + 1) ∧ (rthr W X Y q).2 ≤ q
  | 0, _ => ⟨Nat.zero_le _, Nat.le_refl _⟩
  | q + 1, hq => by
    have ih := rthr_len (W := W) (X := X) (Y := Y) q (by omega)
    have hk : kinds6[q]? = some kinds6[q] := List.getElem?_eq_getElem (by simp; omega)
    rw [rthr_step hk]
    have := rst_len (W := W) (X := X) (Y := Y) (s := rthr W X Y q) (k := kinds6[q])
    rw [Nat.succ_mul]
    omega
theorem rst_mem {W X Y : List F3} {s : List F3 × Nat} {k : Int} : ∀ f ∈ (rst W X Y s k).1, f ∈ s.1 ∨ f ∈ X ∨ f ∈ Y := fun f hf => by
  have hR : ∀ {L : List F3}, f ∈ onlyR k L → f ∈ L := by
    intro L
    induction L with
    | nil => intro h; cases h
    | cons g L ih =>
      intro h
      unfold onlyR at h
      split at h
      · rw [List.mem_singleton] at h; rw [h]; exact List.mem_cons_self
      · exact List.mem_cons_of_mem _ (ih h)
  unfold rst at hf
  split at hf
  · rcases List.mem_append.1 hf with h | h
    · exact .inl h
    · exact .inr (List.mem_append.1 (List.mem_filter.1 h).1)
  · split at hf
    · exact (List.mem_append.1 hf).imp id (fun h => .inr (hR h))
    · split at hf
      · exact (List.mem_append.1 hf).imp id (fun h => .inl (hR h))
      · exact (List.mem_append.1 hf).imp id (fun h => .inl (hR h))
theorem rthr_mem {W X Y : List F3} : ∀ q, q ≤ 6 → ∀ f ∈ (rthr W X Y q).1, f ∈ X ∨ f ∈ Y
  | 0, _, f, hf => by cases hf
  | q + 1, hq, f, hf => by
    have hk : kinds6[q]? = some kinds6[q] := List.getElem?_eq_getElem (by simp; omega)
    rw [rthr_step hk] at hf
    rcases rst_mem f hf with h | h
    · exact rthr_mem q (by omega) f h
    · exact h
theorem threeL_ref {W X Y : List F3} (hW : IsCard W) (hX : IsCard X) (hY : IsCard Y) : threeL W X Y = if (txtL (rthr W X Y 6).1).2 = 0 then ((txtL (rthr W X Y 6).1).1, ((rthr W X Y 6).2 : Int), 0) else (⟨#[]⟩, 0, (txtL (rthr W X Y 6).1).2) := by
  obtain ⟨h1, h2⟩ := rthr_is (W := W) (X := X) (Y := Y) (fun f => card_nz hW) (fun f => card_nz hX) (fun f => card_nz hY)
  have h3 := txtL_cnn (L := (rthr W X Y 6).1) (M := (thrL W X Y 3).1) (fun f hf => (rthr_mem 6 (Nat.le_refl _) f hf).elim (hX.cnn f) (hY.cnn f)) (fun f hf => (thrL_mem 3 f hf).elim (hX.cnn f) (hY.cnn f)) h2
  unfold threeL
  rw [h3, h1]
theorem card_pos {A : List F3} (h : IsCard A) : 0 < A.length := by
  obtain ⟨v, rest, rfl, _⟩ := card_head h
  simp
end Go.Proofs.YtlcchkpjcekinaaGreatDoor
