/- The hub: who waits where, who is woken: what its two maps and its rows hold. -/
import Derived.Test.YtgfaegnpogdneaaRr
namespace Go.Proofs.Ytgfaegnpogdneaa
open Go.RowKit Go.Maps
open Go.Lib
set_option linter.unusedVariables false
set_option linter.unusedSimpArgs false
set_option maxRecDepth 100000
structure Slp where
  who : Int
  place : Int
  woken : Bool
def look (x : Int) : List Slp → Option Slp
  | [] => none
  | s :: Z => if s.who = x then some s else look x Z
def sv (s : Slp) : Value := .agg #[.int .i64 s.place, .bool s.woken]
def atL (Z : List Slp) (p : Int) : List Int := (Z.filter fun s => decide (s.place = p)).map Slp.who
def ivs (l : List Int) : List Value := l.map (Value.int .i64)
def slc (D : VD) (p : Int) : Value := (vl D p).getD (.slice none 0 0)
structure Hb (w : World) (R b1 b2 B : Nat) (No : Nat → Prop) (n : Nat) (Z : List Slp) (D1 D2 : VD) : Prop where
  box : Blk w R 46 #[.map (some b1), .map (some b2)]
  m1 : Vm w b1 D1
  m2 : Vm w b2 D2
  d1 : ∀ x, vl D1 x = (look x Z).map sv
  s1 : Maps.size D1 = Z.length
  s2 : Maps.size D2 ≤ n
  zn : Z.length ≤ n
  one : (Z.map Slp.who).Nodup
  wfz : ∀ s ∈ Z, wf s.who ∧ wf s.place
  row : ∀ p, w.ownsRow B 3 1 (slc D2 p) (atL Z p).length (ivs (atL Z p))
  emp : ∀ p, atL Z p = [] → vl D2 p = none
  shun : ∀ p j, (slc D2 p).ownBlock = some j → j ≠ R ∧ j ≠ b1 ∧ j ≠ b2 ∧ ¬ No j
  apart : ∀ p q j, p ≠ q → (slc D2 p).ownBlock = some j → (slc D2 q).ownBlock = some j → False
  ne : R ≠ b1 ∧ R ≠ b2 ∧ b1 ≠ b2
  nR : ¬ No R ∧ ¬ No b1 ∧ ¬ No b2
  ge : B ≤ R ∧ B ≤ b1 ∧ B ≤ b2
  noLt : ∀ j, No j → j < w.heap.size
  noB : ∀ j, j < B → No j
/-- What is not the hub's is as it was. -/
structure Kp (No : Nat → Prop) (w w' : World) : Prop where
  os : w'.os = w.os
  tape : w'.tape = w.tape
  output : w'.output = w.output
  size : w.heap.size ≤ w'.heap.size
  block : ∀ j, j < w.heap.size → No j → w'.heap[j]? = w.heap[j]?
theorem Kp.refl (No : Nat → Prop) (w : World) : Kp No w w := ⟨rfl, rfl, rfl, Nat.le_refl _, fun _ _ _ => rfl⟩
theorem Kp.of {No : Nat → Prop} {w w' : World} (h : Below w.heap.size w w') : Kp No w w' := ⟨h.os, h.tape, h.output, h.size, fun j hj _ => h.block j hj⟩
theorem Kp.trans {No : Nat → Prop} {a b c : World} (h : Kp No a b) (k : Kp No b c) : Kp No a c := ⟨k.os.trans h.os, k.tape.trans h.tape, k.output.trans h.output, Nat.le_trans h.size k.size, fun j hj hn => (k.block j (Nat.lt_of_lt_of_le hj h.size) hn).trans (h.block j hj hn)⟩
theorem Kp.below {No : Nat → Prop} {w w' : World} {B : Nat} (h : Kp No w w') (hB : B ≤ w.heap.size) (hn : ∀ j, j < B → No j) : Below B w w' := ⟨h.os, h.tape, h.output, h.size, fun j hj => h.block j (by omega) (hn j hj)⟩
theorem Kp.grown {No : Nat → Prop} {w w' : World} {row : Option Nat} (h : w.grownBy w' row) (hn : ∀ j, row = some j → ¬ No j) : Kp No w w' := ⟨h.os, h.tape, h.output, h.size, fun j hj hN => h.block j hj (fun e => hn j e.symm hN)⟩
theorem Kp.drew {No : Nat → Prop} {w w' : World} (h : Kp No w w') : Kp No w w'.drew := ⟨h.os, h.tape, h.output, h.size, h.block⟩
theorem look_mem {x : Int} : ∀ {Z : List Slp} {s : Slp}, look x Z = some s → s ∈ Z ∧ s.who = x
  | [], s, h => by cases h
  | t :: Z, s, h => by
    unfold look at h
    split at h
    · cases h; exact ⟨List.mem_cons_self, by assumption⟩
    · obtain ⟨h1, h2⟩ := look_mem h
      exact ⟨List.mem_cons_of_mem _ h1, h2⟩
theorem look_none {x : Int} : ∀ {Z : List Slp}, look x Z = none → ∀ s ∈ Z, s.who ≠ x
  | [], _, s, hs => by cases hs
  | t :: Z, h, s, hs => by
    unfold look at h
    split at h
    · cases h
    · rcases List.mem_cons.1 hs with rfl | hs
      · assumption
      · exact look_none h s hs
theorem look_none_of {x : Int} : ∀ {Z : List Slp}, (∀ s ∈ Z, s.who ≠ x) → look x Z = none
  | [], _ => rfl
  | t :: Z, h => by
    unfold look
    rw [if_neg (h t List.mem_cons_self)]
    exact look_none_of (fun s hs => h s (List.mem_cons_of_mem _ hs))
theorem look_some_of {x : Int} : ∀ {Z : List Slp}, (Z.map Slp.who).Nodup → ∀ s ∈ Z, s.who = x → look x Z = some s
  | [], _, s, hs, _ => by cases hs
  | t :: Z, hn, s, hs, hx => by
    rw [List.map_cons, List.nodup_cons] at hn
    unfold look
    rcases List.mem_cons.1 hs with rfl | hs
    · rw [if_pos hx]
    · have : t.who ≠ x := fun e => hn.1 (List.mem_map.2 ⟨s, hs, hx.trans e.symm⟩)
      rw [if_neg this]
      exact look_some_of hn.2 s hs hx
theorem look_append (x : Int) (t : Slp) : ∀ Z : List Slp, look x (Z ++ [t]) = (look x Z).or (if t.who = x then some t else none)
  | [] => by simp [look]
  | s :: Z => by
    show (if s.who = x then some s else look x (Z ++ [t])) = (if s.who = x then some s else look x Z).or _
    by_cases e : s.who = x
    · rw [if_pos e, if_pos e]; rfl
    · rw [if_neg e, if_neg e, look_append x t Z]
theorem atL_append (Z : List Slp) (t : Slp) (p : Int) : atL (Z ++ [t]) p = if t.place = p then atL Z p ++ [t.who] else atL Z p := by
  unfold atL
  rw [List.filter_append, List.map_append]
  by_cases e : t.place = p
  · rw [if_pos e]; simp [e]
  · rw [if_neg e]; simp [e]
theorem ivs_snoc (l : List Int) (x : Int) : ivs (l ++ [x]) = ivs l ++ [.int .i64 x] := by unfold ivs; simp
section
variable {w w' : World} {R b1 b2 B n : Nat} {No : Nat → Prop} {Z : List Slp} {D1 D2 : VD}
theorem Hb.c0 (h : Hb w R b1 b2 B No n Z D1 D2) : w.cell? ⟨R, 0, none⟩ = some (.map (some b1)) := h.box.cell 0
theorem Hb.c1 (h : Hb w R b1 b2 B No n Z D1 D2) : w.cell? ⟨R, 1, none⟩ = some (.map (some b2)) := h.box.cell 1
theorem Hb.lt (h : Hb w R b1 b2 B No n Z D1 D2) : R < w.heap.size ∧ b1 < w.heap.size ∧ b2 < w.heap.size := ⟨h.box.lt, h.m1.lt, h.m2.lt⟩
theorem Hb.kept (h : Hb w R b1 b2 B No n Z D1 D2) (hb : Below w.heap.size w w') : Hb w' R b1 b2 B No n Z D1 D2 :=
  { h with
    box := hb.block R h.lt.1 |>.trans h.box
    m1 := h.m1.off (hb.block b1 h.lt.2.1)
    m2 := h.m2.off (hb.block b2 h.lt.2.2)
    row := fun p => row_keep (h.row p) (fun j hj => hb.block j ((h.row p).lt j hj).2)
    noLt := fun j hj => Nat.lt_of_lt_of_le (h.noLt j hj) hb.size }
theorem Hb.reno (h : Hb w R b1 b2 B No n Z D1 D2) {No' : Nat → Prop} (hn : ∀ j, No' j → j < w.heap.size ∧ (No j ∨ (j ≠ R ∧ j ≠ b1 ∧ j ≠ b2 ∧ ∀ p, (slc D2 p).ownBlock ≠ some j))) (hB : ∀ j, j < B → No' j) : Hb w R b1 b2 B No' n Z D1 D2 :=
  { h with
    shun := fun p j hj => ⟨(h.shun p j hj).1, (h.shun p j hj).2.1, (h.shun p j hj).2.2.1, fun hN => by
      rcases (hn j hN).2 with h2 | ⟨_, _, _, h2⟩
      · exact (h.shun p j hj).2.2.2 h2
      · exact h2 p hj⟩
    nR := ⟨fun hN => by
        rcases (hn _ hN).2 with h2 | ⟨h2, _⟩
        · exact h.nR.1 h2
        · exact h2 rfl, fun hN => by
        rcases (hn _ hN).2 with h2 | ⟨_, h2, _⟩
        · exact h.nR.2.1 h2
        · exact h2 rfl, fun hN => by
        rcases (hn _ hN).2 with h2 | ⟨_, _, h2, _⟩
        · exact h.nR.2.2 h2
        · exact h2 rfl⟩
    noLt := fun j hj => (hn j hj).1
    noB := hB }
theorem new_any (w : World) : Calls Try.prog 8 #[] w fun e w' => ∃ R b1 b2 D1 D2, e = .returned (.pointer (some ⟨R, 0, none⟩)) ∧ Hb w' R b1 b2 w.heap.size (fun j => j < w.heap.size) 0 [] D1 D2 ∧ Below w.heap.size w w' := by
  have hmm := @run_makeMap Try.prog
  go_enter Try.func8, Try.ntmps8
  go_wp2
  go_ret
  have hA := (Below.refl w.heap.size w).alloc (Nat.le_refl _) (.map #[] 0)
  refine ⟨w.heap.size + 2, w.heap.size, w.heap.size + 1, .map [], .map [], rfl, ⟨?_, ?_, ?_, fun x => rfl, rfl, Nat.le_refl _, Nat.le_refl _, List.nodup_nil, fun s hs => (by cases hs), fun p => World.ownsRow_nil _ _ _ _, fun p _ => rfl, fun p j hj => (by cases hj), fun p q j _ hj => (by cases hj), ⟨by omega, by omega, by omega⟩, ⟨by omega, by omega, by omega⟩, ⟨by omega, by omega, by omega⟩, fun j hj => by simp; omega, fun j hj => hj⟩, ?_⟩
  · have := Blk.new ((w.alloc (.map #[] 0)).alloc (.map #[] 0)) 46 #[.map (some w.heap.size), .map (some (w.heap.size + 1))]
    simpa using this
  · exact (Vm.made w).off (by rw [Below.heap_alloc _ _ _ (by simp; omega), Below.heap_alloc _ _ _ (by simp)])
  · have := Vm.made (w.alloc (.map #[] 0))
    rw [show (w.alloc (.map #[] 0)).heap.size = w.heap.size + 1 by simp] at this
    exact this.off (by rw [Below.heap_alloc _ _ _ (by simp)])
  · exact (hA.alloc (by simp) _).alloc (by simp; omega) _
theorem slv (h : Hb w R b1 b2 B No n Z D1 D2) (x : Int) : (vl D1 x).isSome = (look x Z).isSome := by rw [h.d1]; cases look x Z <;> rfl
def wokenB (Z : List Slp) (x : Int) : Bool := match look x Z with | some s => s.woken | none => false
theorem fld1 (a b : Value) (w : World) : (Instr.field 48 (.agg #[a, b]) 1).run Try.prog w = .ok b w := by kernel_rfl
theorem woken_any (h : Hb w R b1 b2 B No n Z D1 D2) (x : Int) (hx : wf x) : Calls Try.prog 16 #[.pointer (some ⟨R, 0, none⟩), .int .i64 x] w fun e w' => e = .returned (.bool (wokenB Z x)) ∧ w' = w := by
  have c0 := h.c0
  have hlk := (h.m1.look Try.underlying43 (zero48 w) hx).2
  rw [h.d1] at hlk
  unfold wokenB
  cases hl : look x Z with
  | none =>
    rw [hl] at hlk
    simp only [Option.map_none, Option.getD_none] at hlk
    have hf1 := fun a b W => fld1 a b W
    clear h hl
    go_enter Try.func16, Try.ntmps16
    go_wp2
    go_ret
    exact ⟨rfl, rfl⟩
  | some s =>
    rw [hl] at hlk
    simp only [Option.map_some, Option.getD_some, sv] at hlk
    have hf1 := fun a b W => fld1 a b W
    clear h hl
    go_enter Try.func16, Try.ntmps16
    go_wp2
    go_ret
    exact ⟨rfl, rfl⟩
theorem len_any (h : Hb w R b1 b2 B No n Z D1 D2) : Calls Try.prog 20 #[.pointer (some ⟨R, 0, none⟩)] w fun e w' => e = .returned (.int .i64 Z.length) ∧ w' = w := by
  have c0 := h.c0
  have hln := h.m1.len 3 Try.underlying43
  rw [h.s1] at hln
  clear h
  go_enter Try.func20, Try.ntmps20
  go_wp2
  go_ret
  exact ⟨rfl, rfl⟩
end
end Go.Proofs.Ytgfaegnpogdneaa
