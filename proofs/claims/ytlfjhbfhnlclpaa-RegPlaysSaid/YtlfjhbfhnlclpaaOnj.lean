/- Maps over trees (values: Int): At; what a call leaves; Put, Del by lists. -/
import Derived.Test.YtlfjhbfhnlclpaaOnh
namespace Go.Proofs.Ytlfjhbfhnlclpaa.ON
open Go.RowKit
open Go.Lib
set_option linter.unusedVariables false
set_option linter.unusedSimpArgs false
set_option maxRecDepth 100000
/-- What a call on a map leaves as it was: all but its box. -/
structure Ko (w w' : World) (g : Nat) : Prop where
  os : w'.os = w.os
  tape : w'.tape = w.tape
  output : w'.output = w.output
  size : w.heap.size ≤ w'.heap.size
  block : ∀ j, j < w.heap.size → j ≠ g → w'.heap[j]? = w.heap[j]?
theorem Ko.below {w w' : World} {g B : Nat} (h : Ko w w' g) (hg : B ≤ g) (hB : B ≤ w.heap.size) : Below B w w' := ⟨h.os, h.tape, h.output, h.size, fun j hj => h.block j (by omega) (by omega)⟩
theorem Ko.of {w w' : World} {g : Nat} (h : Below w.heap.size w w') : Ko w w' g := ⟨h.os, h.tape, h.output, h.size, fun j hj _ => h.block j hj⟩
theorem Ko.trans {a b c : World} {g : Nat} (h : Ko a b g) (k : Ko b c g) : Ko a c g := ⟨k.os.trans h.os, k.tape.trans h.tape, k.output.trans h.output, Nat.le_trans h.size k.size, fun j hj hn => (k.block j (Nat.lt_of_lt_of_le hj h.size) hn).trans (h.block j hj hn)⟩
theorem Ko.keepN {w w' : World} {g : Nat} {t : TypeId} {cs : Array Value} (h : Ko w w' g) (hb : Blk w g t cs) (ht : t ≠ 65) : KeepN w w' := fun b cs2 x => (h.block b x.lt (fun e => by
  subst e
  unfold Blk at hb x
  rw [hb] at x
  cases x
  exact ht rfl)).trans x
/-- A map's root is another tree. -/
theorem root_set {w w1 : World} {g : Nat} {t' : T} {p p1 : Option Addr} (hb : Blk w g 63 #[.pointer p]) (h1 : Below w.heap.size w w1) (ht : IsT w1 t' p1) : Mt (w1.setCell ⟨g, 0, none⟩ (.pointer p1)) g t' ∧ Ko w (w1.setCell ⟨g, 0, none⟩ (.pointer p1)) g := by
  have hb1 := hb.below h1 hb.lt
  refine ⟨⟨p1, hb1.set_ 0 _, ht.keep (KeepN.set hb1 (by decide) 0 _)⟩, ⟨h1.os, h1.tape, h1.output, ?_, fun j hj hn => (Below.heap_setCell w1 ⟨g, 0, none⟩ _ j hn).trans (h1.block j hj)⟩⟩
  have := h1.size
  simpa [World.setCell] using this
theorem put_map {w : World} {g : Nat} {t : T} (h : Mt w g t) (hs : t.size ≤ 40000) (k : ByteArray) (v : Int) : Calls Try.prog 36 #[.pointer (some ⟨g, 0, none⟩), .string k, .int .i64 v] w fun e w' => e = .returned (.bool (decide (t.size < (Tr.put k v t).size))) ∧ Mt w' g (Tr.put k v t) ∧ Ko w w' g := by
  have HLN := Lib.hid (len_any h)
  obtain ⟨p, h1, h2⟩ := h
  have c0 : w.cell? ⟨g, 0, none⟩ = some (.pointer p) := h1.cell 0
  have HB := Lib.hid h1
  have HP := Lib.hid (put_any k v h2 (by omega))
  obtain ⟨t', ht'⟩ : ∃ t', Tr.put k v t = t' := ⟨_, rfl⟩
  rw [ht'] at HP ⊢
  obtain ⟨n, hn⟩ : ∃ n, t.size = n := ⟨_, rfl⟩
  rw [hn] at HLN ⊢
  obtain ⟨m, hm⟩ : ∃ m, t'.size = m := ⟨_, rfl⟩
  have HM := Lib.hid hm
  rw [hm]
  clear h1 h2 ht' hn hm
  go_enter Try.func36, Try.ntmps36
  go_wp2_with fail
  refine HLN.out.mono ?_
  rintro _ wz ⟨rfl, hw0⟩
  replace hw0 := hw0.symm
  subst hw0
  go_wp2_with fail
  refine HP.out.mono ?_
  rintro _ w1 ⟨p1, rfl, ht1, hb1⟩
  have HR := Lib.hid (root_set HB.out hb1 ht1)
  have b1 := HB.out.below hb1 HB.out.lt
  have d0 := b1.cell 0
  have f0 := b1.frozen 0
  clear ht1 hb1 b1
  go_wp2_with fail
  refine (len_any HR.out.1).mono ?_
  rintro _ wz ⟨rfl, hw0⟩
  replace hw0 := hw0.symm
  subst hw0
  rw [HM.out]
  go_wp2
  go_ret
  exact ⟨by first | rfl | (congr 2; simp) | congr 2, HR.out.1, HR.out.2⟩
theorem del_map {w : World} {g : Nat} {t : T} (h : Mt w g t) (hs : t.size ≤ 40000) (k : ByteArray) : Calls Try.prog 37 #[.pointer (some ⟨g, 0, none⟩), .string k] w fun e w' => e = .returned (.bool (decide ((Tr.del t k).size < t.size))) ∧ Mt w' g (Tr.del t k) ∧ Ko w w' g := by
  have HLN := Lib.hid (len_any h)
  obtain ⟨p, h1, h2⟩ := h
  have c0 : w.cell? ⟨g, 0, none⟩ = some (.pointer p) := h1.cell 0
  have HB := Lib.hid h1
  have HP := Lib.hid (del_any t k h2 (by omega))
  obtain ⟨t', ht'⟩ : ∃ t', Tr.del t k = t' := ⟨_, rfl⟩
  rw [ht'] at HP ⊢
  obtain ⟨n, hn⟩ : ∃ n, t.size = n := ⟨_, rfl⟩
  rw [hn] at HLN ⊢
  obtain ⟨m, hm⟩ : ∃ m, t'.size = m := ⟨_, rfl⟩
  have HM := Lib.hid hm
  rw [hm]
  clear h1 h2 ht' hn hm
  go_enter Try.func37, Try.ntmps37
  go_wp2_with fail
  refine HLN.out.mono ?_
  rintro _ wz ⟨rfl, hw0⟩
  replace hw0 := hw0.symm
  subst hw0
  go_wp2_with fail
  refine HP.out.mono ?_
  rintro _ w1 ⟨p1, rfl, ht1, hb1⟩
  have HR := Lib.hid (root_set HB.out hb1 ht1)
  have b1 := HB.out.below hb1 HB.out.lt
  have d0 := b1.cell 0
  have f0 := b1.frozen 0
  clear ht1 hb1 b1
  go_wp2_with fail
  refine (len_any HR.out.1).mono ?_
  rintro _ wz ⟨rfl, hw0⟩
  replace hw0 := hw0.symm
  subst hw0
  rw [HM.out]
  go_wp2
  go_ret
  exact ⟨by first | rfl | (congr 2; simp) | congr 2, HR.out.1, HR.out.2⟩
theorem new_map (w : World) : Calls Try.prog 35 #[] w fun e w' => ∃ g, e = .returned (.pointer (some ⟨g, 0, none⟩)) ∧ Mt w' g .nil ∧ Below w.heap.size w w' ∧ w.heap.size ≤ g := by
  go_enter Try.func35, Try.ntmps35
  go_wp2
  go_ret
  exact ⟨w.heap.size, rfl, ⟨none, Blk.new w 63 _, rfl⟩, (Below.refl _ w).alloc (Nat.le_refl _) _, Nat.le_refl _⟩
end Go.Proofs.Ytlfjhbfhnlclpaa.ON
