/- Since at any token, of both; rows that a law spoils. -/
import Derived.Test.YthcjbljkokflgaaYb
set_option linter.unnecessarySimpa false
namespace Go.Proofs.Ythcjbljkokflgaa
open Go.RowKit
open Go.Lib
set_option linter.unusedVariables false
set_option linter.unusedSimpArgs false
set_option maxRecDepth 100000
def BadT (c : Cs) (T : Int) : Prop := T ≠ 0 ∧ (T < c.horizon ∨ c.latest < T)
theorem badT_no {c : Cs} {T : Int} (h : ¬ BadT c T) : T = 0 ∨ (c.horizon ≤ T ∧ T ≤ c.latest) := by
  by_cases h0 : T = 0
  · exact .inl h0
  · exact .inr ⟨Int.not_lt.1 fun e => h ⟨h0, .inl e⟩, Int.not_lt.1 fun e => h ⟨h0, .inr e⟩⟩
open Classical in
noncomputable def errC (c : Cs) (T : Int) : Int := if BadT c T then 8 else 0
open Classical in
def TellC (c : Cs) (T : Int) (ys : List It) : Prop := if BadT c T then ys = [] else Sin c T ys
section
variable {w wr w' : World} {g r k : Nat} {c : Cs} {R : Rs}
theorem Du.csince_any (h : Du w wr g r k c R) (hk : k ≤ 1000) (T : Int) : Calls Try.prog 28 #[.pointer (some ⟨g, 0, none⟩), .int .i64 T] wr fun e w' => ∃ U ys, TellC c T ys ∧ e = .returned (.tuple #[U, .int .i64 (errC c T)]) ∧ w'.ownsRow wr.heap.size 62 4 U ys.length (itsC ys) ∧ Below wr.heap.size wr w' := by
  unfold TellC errC
  by_cases hb : BadT c T
  · rw [if_pos hb]
    refine (since_bad h.cl hb.1 hb.2).mono ?_
    rintro _ _ ⟨rfl, rfl⟩
    exact ⟨_, [], by rw [if_pos hb], rfl, World.ownsRow_nil _ _ _ _, Below.refl _ _⟩
  · rw [if_neg hb]
    refine (h.csince hk T (badT_no hb)).mono ?_
    rintro _ _ ⟨U, ys, h1, rfl, h2, h3⟩
    exact ⟨U, ys, by rw [if_neg hb]; exact h1, rfl, h2, h3⟩
theorem Du.rsince_any (h : Du w wr g r k c R) (hk : k ≤ 1000) (T : Int) : Calls Try.prog 29 #[.pointer (some ⟨r, 0, none⟩), .int .i64 T] wr fun e w' => ∃ U zs, (∀ ys, TellC c T ys → zs = ys) ∧ e = .returned (.tuple #[U, .int .i64 (errC c T)]) ∧ w'.ownsRow wr.heap.size 62 4 U zs.length (itsC zs) ∧ Below wr.heap.size wr w' := by
  unfold TellC errC
  by_cases hb : BadT c T
  · rw [if_pos hb]
    refine (rsince_bad h.rc hb.1 (by rw [h.sim.ho, h.sim.la]; exact hb.2)).mono ?_
    rintro _ _ ⟨rfl, rfl⟩
    exact ⟨_, [], (fun ys e => by rw [if_pos hb] at e; exact e.symm), rfl, World.ownsRow_nil _ _ _ _, Below.refl _ _⟩
  · rw [if_neg hb]
    refine (h.rsince hk T (badT_no hb)).mono ?_
    rintro _ _ ⟨U, zs, h1, h1', rfl, h2, h3⟩
    exact ⟨U, zs, (fun ys e => by rw [if_neg hb] at e; exact h.since_same e h1 h1'), rfl, h2, h3⟩
theorem Du.tell_len (h : Du w wr g r k c R) {T : Int} {ys : List It} (h1 : TellC c T ys) : ys.length ≤ k := by
  unfold TellC at h1
  by_cases hb : BadT c T
  · rw [if_pos hb] at h1; rw [h1]; exact Nat.zero_le _
  · rw [if_neg hb] at h1; exact h.sin_len h1
end
theorem set4_keep {w : World} {B b q n : Nat} {t : It} {v : Value} {xs : List Value} (h : w.ownsRow B 62 4 v n xs) (hne : v.ownBlock ≠ some b) : (set4 w b q t).ownsRow B 62 4 v n xs :=
  own_keep h (fun j hj => by
    have hjb : j ≠ b := fun e => hne (e ▸ hj)
    unfold set4
    rw [Below.heap_setCell _ ⟨b, _, none⟩ _ j hjb, Below.heap_setCell _ ⟨b, _, none⟩ _ j hjb, Below.heap_setCell _ ⟨b, _, none⟩ _ j hjb, Below.heap_setCell _ ⟨b, _, none⟩ _ j hjb])
theorem set4_row {w0 w : World} {B B0 b n cap q : Nat} {cur : List It} (h : w.ownsRow B 62 4 (.slice (some ⟨b, 0, none⟩) n cap) n (itsC cur)) (hl : cur.length = n) (hq : q < n) (t : It) (hb : Below B0 w0 w) (hB : B0 ≤ B) : ∃ cur', cur'.length = n ∧ (set4 w b q t).ownsRow B 62 4 (.slice (some ⟨b, 0, none⟩) n cap) n (itsC cur') ∧ Below B0 w0 (set4 w b q t) :=
  ⟨cur.set q t, by rw [List.length_set]; exact hl, own_set4 h hl q hq t, set4_below hb (Nat.le_trans hB (h.lt b rfl).1)⟩
end Go.Proofs.Ythcjbljkokflgaa
