/- Maps over trees (values: Int), told by rising lists. -/
import Derived.Test.YtlfjhbfhnlclpaaOnj
namespace Go.Proofs.Ytlfjhbfhnlclpaa.ON
open Go.RowKit
open Go.Lib
set_option linter.unusedVariables false
set_option linter.unusedSimpArgs false
set_option maxRecDepth 100000
def Om (w : World) (g : Nat) (L : List (ByteArray × Int)) : Prop := ∃ t, Mt w g t ∧ t.ino = L ∧ Srt L
section
variable {w w' : World} {g : Nat} {L : List (ByteArray × Int)}
theorem Om.srt (h : Om w g L) : Srt L := by
  obtain ⟨t, _, _, h⟩ := h
  exact h
theorem Om.lt (h : Om w g L) : g < w.heap.size := by
  obtain ⟨t, ⟨p, h, _⟩, _⟩ := h
  exact h.lt
theorem Om.below (h : Om w g L) (hb : Below w.heap.size w w') : Om w' g L := by
  obtain ⟨t, h1, h2⟩ := h
  exact ⟨t, h1.below hb, h2⟩
/-- Its box and all nodes are as they were. -/
theorem Om.keep (h : Om w g L) (hg : w'.heap[g]? = w.heap[g]?) (hk : KeepN w w') : Om w' g L := by
  obtain ⟨t, ⟨p, h1, h3⟩, h2⟩ := h
  exact ⟨t, ⟨p, hg.trans h1, h3.keep hk⟩, h2⟩
theorem Om.box (h : Om w g L) : ∃ p, Blk w g 63 #[.pointer p] := by
  obtain ⟨t, ⟨p, h1, _⟩, _⟩ := h
  exact ⟨p, h1⟩
theorem om_new (w : World) : Calls Try.prog 35 #[] w fun e w' => ∃ g, e = .returned (.pointer (some ⟨g, 0, none⟩)) ∧ Om w' g [] ∧ Below w.heap.size w w' ∧ w.heap.size ≤ g := by
  refine (new_map w).mono ?_
  rintro _ w' ⟨g, rfl, h1, h2, h3⟩
  exact ⟨g, rfl, ⟨_, h1, rfl, List.Pairwise.nil⟩, h2, h3⟩
theorem om_len (h : Om w g L) : Calls Try.prog 30 #[.pointer (some ⟨g, 0, none⟩)] w fun e w' => e = .returned (.int .i64 (L.length : Int)) ∧ w' = w := by
  obtain ⟨t, h1, rfl, h2⟩ := h
  rw [← Tr.size_ino]
  exact len_any h1
theorem om_get (h : Om w g L) (k : ByteArray) (o : Option (Int)) (ho : getL k L = o) : Calls Try.prog 29 #[.pointer (some ⟨g, 0, none⟩), .string k] w fun e w' => e = .returned (.tuple #[ov o, .bool o.isSome]) ∧ w' = w := by
  subst ho
  obtain ⟨t, h1, rfl, h2⟩ := h
  rw [← Tr.get_ino h2]
  exact get_any h1 k
theorem om_put (h : Om w g L) (hn : L.length ≤ 40000) (k : ByteArray) (v : Int) (o : Bool) (ho : (getL k L).isSome = o) : Calls Try.prog 36 #[.pointer (some ⟨g, 0, none⟩), .string k, .int .i64 v] w fun e w' => e = .returned (.bool (!o)) ∧ Om w' g (insL k v L) ∧ Ko w w' g := by
  subst ho
  obtain ⟨t, h1, rfl, h2⟩ := h
  refine (put_map h1 (by rw [Tr.size_ino]; exact hn) k v).mono ?_
  rintro _ w' ⟨rfl, h3, h4⟩
  refine ⟨?_, ⟨_, h3, Tr.ino_put h2, h2.ins⟩, h4⟩
  congr 2
  rw [Tr.size_ino, Tr.size_ino, Tr.ino_put h2, insL_len h2]
  cases (getL k t.ino).isSome <;> simp
theorem om_del (h : Om w g L) (hn : L.length ≤ 40000) (k : ByteArray) (o : Bool) (ho : (getL k L).isSome = o) : Calls Try.prog 37 #[.pointer (some ⟨g, 0, none⟩), .string k] w fun e w' => e = .returned (.bool o) ∧ Om w' g (delL k L) ∧ Ko w w' g := by
  subst ho
  obtain ⟨t, h1, rfl, h2⟩ := h
  refine (del_map h1 (by rw [Tr.size_ino]; exact hn) k).mono ?_
  rintro _ w' ⟨rfl, h3, h4⟩
  refine ⟨?_, ⟨_, h3, Tr.ino_del h2 k, h2.del k⟩, h4⟩
  congr 2
  have := delL_len (k := k) h2
  rw [Tr.size_ino, Tr.size_ino, Tr.ino_del h2]
  cases hc : (getL k t.ino).isSome
  · rw [hc] at this
    simp at this ⊢
    omega
  · rw [hc] at this
    simp at this ⊢
    omega
end
end Go.Proofs.Ytlfjhbfhnlclpaa.ON
