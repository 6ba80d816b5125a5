/- The clock's All: all alarms that have come, in their order. -/
import Derived.Test.YtchjgojagmhpeaaSd
import Derived.Maps.OwnSet
namespace Go.Proofs.Ytchjgojagmhpeaa
open Go.RowKit Go.Maps
open Go.Proofs Go.Sort Go.Lib
set_option linter.unusedVariables false
set_option linter.unusedSimpArgs false
set_option maxRecDepth 20000
noncomputable def srt (D : MD) (xs : List W64) : List W64 := xs.mergeSort fun x y => !(ltOf (cfW D)) y x
theorem srt_perm (D : MD) (xs : List W64) : (srt D xs).Perm xs := List.mergeSort_perm _ _
theorem srt_sorted (D : MD) (xs : List W64) (hn : xs.Nodup) : (srt D xs).Pairwise (fun x y => ahd D x.1 y.1) := by
  have h1 : (srt D xs).Pairwise (fun x y => (!(ltOf (cfW D)) y x) = true) := List.pairwise_mergeSort (fun a b c h1 h2 => by
    simp only [Bool.not_eq_true'] at *
    exact (swoW D).ntrans c b a h2 h1) (fun a b => by
    cases h : ltOf (cfW D) b a with
    | false => rfl
    | true =>
      cases h2 : ltOf (cfW D) a b with
      | false => rfl
      | true =>
        have := (swoW D).trans a b a h2 h
        rw [(swoW D).irrefl] at this
        cases this) xs
  have h2 : (srt D xs).Nodup := (srt_perm D xs).nodup_iff.2 hn
  refine List.Pairwise.imp₂ (fun x y hle hne => ?_) h1 h2
  simp only [Bool.not_eq_true'] at hle
  rw [ltW_not] at hle
  have hne2 : x.1 ≠ y.1 := fun e => hne (Subtype.ext e)
  unfold ahd at *
  omega
/-- A row that a call hands back: what stands in it. -/
structure Ls (w : World) (A : Option Addr) (cap g : Nat) (ys : List Int) : Prop where
  get : ∀ j y, ys[j]? = some y → A = some ⟨g, 0, none⟩ ∧ ys.length ≤ cap ∧ w.cell? ⟨g, j, none⟩ = some (.int .i64 y)
theorem Ls.below {w w' : World} {A : Option Addr} {cap g : Nat} {ys : List Int} (h : Ls w A cap g ys) (hb : Below w.heap.size w w') : Ls w' A cap g ys :=
  ⟨fun j y hj => by
    obtain ⟨h1, h2, h3⟩ := h.get j y hj
    exact ⟨h1, h2, (hb.cell (p := ⟨g, j, none⟩) (cell_lt h3)).trans h3⟩⟩
def SortOK : Prop := ∀ (w : World) (R b n B g : Nat) (now : Int) (D : MD) (h : Clk w R b now n D) (hB : w.cell? ⟨B, 0, none⟩ = some (.pointer (some ⟨R, 0, none⟩))) (h1 : R ≠ g) (h2 : b ≠ g) (h3 : B ≠ g) (xs : List W64) (cap : Nat)
    (hH : Holds encW w g 0 xs.toArray) (hg : g < w.heap.size) (hl : xs.length ≤ 1000000),
    Calls Try.prog 23 #[.slice (some ⟨g, 0, none⟩) xs.length cap, .func (.func 24) #[] #[.pointer (some ⟨B, 0, none⟩)]] w fun e w' => e = .returned (.tuple #[]) ∧ ∃ m os, w' = sortWorld encW w g 0 m (srt D xs).toArray os
def SortNil : Prop := ∀ (w : World) (f : Value), Calls Try.prog 23 #[.slice none 0 0, f] w fun e w' => e = .returned (.tuple #[]) ∧ w' = w
theorem holds_own {w : World} {A : Option Addr} {cap g : Nat} {xs : List W64} (h : OwnG 3 w A cap g (xs.map encW)) : Holds encW w g 0 xs.toArray := by
  intro j hj
  have hj' : j < xs.length := by simpa using hj
  have e : (xs.map encW)[j]? = some (encW xs[j]) := by rw [List.getElem?_map, List.getElem?_eq_getElem hj']; rfl
  obtain ⟨_, _, _, h4, h5⟩ := h.cell e
  rw [Nat.zero_add]
  refine ⟨?_, h5⟩
  rw [h4]
  congr 2
  rw [getElem!_pos xs.toArray j hj]
  simp
theorem sorted_out {w : World} {A : Option Addr} {cap g m : Nat} {xs ys : List W64} {os : Array Obj} (h : OwnG 3 w A cap g (xs.map encW)) (hl : ys.length = xs.length) : Ls (sortWorld encW w g 0 m ys.toArray os) A cap g (ys.map Subtype.val) := by
  refine ⟨fun j y hj => ?_⟩
  have hjl : j < ys.length := by have := (List.getElem?_eq_some_iff.1 hj).1; simpa using this
  have hjx : j < xs.length := by omega
  have e : (xs.map encW)[j]? = some (encW xs[j]) := by rw [List.getElem?_map, List.getElem?_eq_getElem hjx]; rfl
  obtain ⟨h1, h2, h3, _, _⟩ := h.cell e
  refine ⟨h1, by simp at h2 ⊢; omega, ?_⟩
  have hy : y = ys[j].1 := by rw [List.getElem?_map, List.getElem?_eq_getElem hjl] at hj; exact (Option.some.inj hj).symm
  have hH : Holds encW (Sort.ahead w m) g 0 xs.toArray := holds_own h
  have hc := cell?_putRow encW (Sort.ahead w m) g 0 xs.toArray ys.toArray hH (by simp [hl]) j (by simpa using hjl)
  rw [Nat.zero_add] at hc
  unfold sortWorld
  rw [cell?_grow _ os _ (by simpa using h3), hc, getElem!_pos ys.toArray j (by simpa using hjl), hy]
  simp [encW]
theorem has_due {D : MD} {now x : Int} (h : dueB D now x = true) : Maps.has D (.int .i64 x) = true := by
  cases hh : Maps.has D (.int .i64 x) with
  | true => rfl
  | false =>
    have : al D x = none := by unfold al; rw [atKey_of_not_has hh]
    unfold dueB at h
    rw [this] at h
    cases h
theorem OwnG.alloc {e : TypeId} {w : World} {A : Option Addr} {cap g : Nat} {l : List Value} (h : OwnG e w A cap g l) (o : Obj) : OwnG e (w.alloc o) A cap g l := by
  rcases h with ⟨h1, h2, h3⟩ | ⟨cur, h1, h2, h3, h4, h5⟩
  · exact .inl ⟨h1, h2, h3⟩
  · exact .inr ⟨cur, h1, h2, h3, (Below.heap_alloc w o g (Blk.lt h4)).trans h4, h5⟩
structure AR (w0 wr : World) (R b r n : Nat) (now : Int) (D : MD) (l : Value) (left : Lit → Bool) (cnt : Nat) (xs : List W64) (A : Option Addr) (cap g : Nat) : Prop where
  rg : wr.ranges Try.prog 3 PE b r n D left cnt
  bx : Blk wr R 45 #[.int .i64 now, .map (some b)]
  pt : Blk wr w0.heap.size 24 #[.pointer (some ⟨R, 0, none⟩)]
  bel : Below w0.heap.size w0 wr
  rl : r < wr.heap.size
  l : l = .slice A xs.length cap
  own : OwnG 3 wr A cap g (xs.map encW)
  far : w0.heap.size + 1 < g
  nod : xs.Nodup
  mem : ∀ x : W64, x ∈ xs ↔ (dueB D now x.1 = true ∧ left (.int .i64 x.1) = false)
  cnt : xs.length + cnt ≤ n
end Go.Proofs.Ytchjgojagmhpeaa
