/- Maps over trees (values: Int): At; what a call leaves; Put, Del by lists. -/
import Derived.Test.YtmapfbnfcbkjpaaOih
namespace Go.Proofs.Ytmapfbnfcbkjpaa.OI
open Go.RowKit
open Go.Lib
set_option linter.unusedVariables false
set_option linter.unusedSimpArgs false
set_option maxRecDepth 100000
set_option maxHeartbeats 4000000 in
theorem at_in {w : World} {g : Nat} {t : T} (h : Mt w g t) (hs : t.size ≤ 50000) (i : Nat) (k : ByteArray) (v : Int) (hi : t.ino[i]? = some (k, v)) : Calls Try.prog 18 #[.pointer (some ⟨g, 0, none⟩), .int .i64 (i : Int)] w fun e w' => e = .returned (.tuple #[.string k, .int .i64 v, .bool true]) ∧ Below w.heap.size w w' := by
  have HLN := Lib.hid (len_any h)
  obtain ⟨p, h1, h2⟩ := h
  have c0 : w.cell? ⟨g, 0, none⟩ = some (.pointer p) := h1.cell 0
  have HT := Lib.hid h2
  have HI := Lib.hid hi
  have hlt := (List.getElem?_eq_some_iff.1 hi).1
  rw [← Tr.size_ino] at hlt
  have hi0 : ((i : Int) ≥ 0) := by omega
  have HSZ := Lib.hid hs
  obtain ⟨n, hn⟩ : ∃ n, t.size = n := ⟨_, rfl⟩
  rw [hn] at HLN hlt hs
  have hiI : (i : Int) < (n : Int) := by omega
  clear h1 h2 hi hn
  go_enter Try.func18, Try.ntmps18
  go_wp2_with fail
  refine HLN.out.mono ?_
  rintro _ wz ⟨rfl, hw0⟩
  replace hw0 := hw0.symm
  subst hw0
  go_wp2_with fail
  go_loop [1, 7] (fun i q => ∃ (j : Nat) (t' : T) (pq : Option Addr), i = .int .i64 (j : Int) ∧ q = .pointer pq ∧ IsT w t' pq ∧ t'.ino[j]? = some (k, v) ∧ j ≤ n ∧ t'.size ≤ 50000) (fun _ q => nodeSz w q)
  case atStart => exact ⟨i, _, _, rfl, rfl, HT.out, HI.out, by omega, HSZ.out⟩
  case round =>
    obtain ⟨j, t', pq, rfl, rfl, ht, hg, hj, hsz⟩ := hrel
    cases t' with
    | nil => exact absurd hg (by show ¬ ([] : List (ByteArray × Int))[j]? = _; simp)
    | node k' v' l r =>
      obtain ⟨b, pl, pr, rfl, hB, hl, hr⟩ := ht
      have d0 : w.cell? ⟨b, 0, none⟩ = some (.string k') := hB.cell 0
      have d1 : w.cell? ⟨b, 1, none⟩ = some (.int .i64 v') := hB.cell 1
      have d3 : w.cell? ⟨b, 3, none⟩ = some (.pointer pl) := hB.cell 3
      have d4 : w.cell? ⟨b, 4, none⟩ = some (.pointer pr) := hB.cell 4
      have HM := Lib.hid (show nodeSz w (.pointer (some ⟨b, 0, none⟩)) = _ from nodeSz_of hB)
      have HL := Lib.hid hl
      have HR := Lib.hid hr
      have HG := Lib.hid (show (l.ino ++ (k', v') :: r.ino)[j]? = some (k, v) from hg)
      have HLM := Lib.hid (isz hl)
      have HRM := Lib.hid (isz hr)
      have HSL := Lib.hid (size_any hl)
      have HSI := Lib.hid (Tr.size_ino l)
      have hsz : l.size + 1 + r.size ≤ 50000 := hsz
      obtain ⟨m, hm⟩ : ∃ m, l.size = m := ⟨_, rfl⟩
      rw [hm] at HSL hsz HSI
      have HMM := Lib.hid hm
      clear hg hB hl hr hm
      go_wp2_with fail
      refine HSL.out.mono ?_
      rintro _ wz ⟨rfl, hw0⟩
      replace hw0 := hw0.symm
      subst hw0
      by_cases h1 : j < m
      · have h1I : (j : Int) < (m : Int) := by omega
        have HG2 := Lib.hid (show l.ino[j]? = some (k, v) from by have := HG.out; rwa [List.getElem?_append_left (by rw [← HSI.out]; exact h1)] at this)
        go_wp2_with fail
        go_round
        case rel => exact ⟨j, l, _, rfl, rfl, HL.out, HG2.out, by omega, by rw [HMM.out]; omega⟩
        case measure => rw [HM.out, HLM.out]; omega
      · have h1I : ¬ (j : Int) < (m : Int) := by omega
        have hg2 := HG.out
        rw [List.getElem?_append_right (by rw [← HSI.out]; omega), ← HSI.out] at hg2
        by_cases h2 : j = m
        · subst h2
          rw [Nat.sub_self] at hg2
          have hg3 : (k', v') = (k, v) := by simpa using hg2
          cases hg3
          clear hg2
          go_wp2_with fail
          go_region
          all_goals (
            go_wp2
            go_ret3
            exact ⟨rfl, (Below.refl _ w).drew⟩)
        · have h2I : (j : Int) > (m : Int) := by omega
          have HG2 := Lib.hid (show r.ino[j - (m + 1)]? = some (k, v) from by
            rw [show j - m = (j - (m + 1)) + 1 by omega, List.getElem?_cons_succ] at hg2
            exact hg2)
          have i1 : IntKind.i64.wrap ((m : Int) + 1) = (m : Int) + 1 := IntWalk.i64_in _ (by omega)
          have i2 : IntKind.i64.wrap ((j : Int) - ((m : Int) + 1)) = ((j - (m + 1) : Nat) : Int) := by rw [show (j : Int) - ((m : Int) + 1) = ((j - (m + 1) : Nat) : Int) by omega]; exact IntWalk.i64_in _ (by omega)
          clear hg2 h1
          go_wp2_with fail
          go_round
          case rel => exact ⟨j - (m + 1), r, _, by first | rfl | (congr 1; omega) | go_num, rfl, HR.out, HG2.out, by omega, by omega⟩
          case measure => rw [HM.out, HRM.out]; omega
theorem at_out {w : World} {g : Nat} {t : T} (h : Mt w g t) (i : Int) (hi : i < 0 ∨ (t.size : Int) ≤ i) : Calls Try.prog 18 #[.pointer (some ⟨g, 0, none⟩), .int .i64 i] w fun e w' => e = .returned (.tuple #[.string .empty, .int .i64 0, .bool false]) ∧ Below w.heap.size w w' := by
  have HLN := Lib.hid (len_any h)
  obtain ⟨n, hn⟩ : ∃ n, t.size = n := ⟨_, rfl⟩
  rw [hn] at HLN hi
  clear h hn
  by_cases h0 : i < 0
  · have hb : ¬ i ≥ 0 := by omega
    clear hi
    go_enter Try.func18, Try.ntmps18
    go_wp2
    go_ret3
    exact ⟨rfl, Below.refl _ _⟩
  · have hb : i ≥ 0 := by omega
    have hb2 : ¬ i < (n : Int) := by omega
    clear hi
    go_enter Try.func18, Try.ntmps18
    go_wp2_with fail
    refine HLN.out.mono ?_
    rintro _ wz ⟨rfl, hw0⟩
    replace hw0 := hw0.symm
    subst hw0
    go_wp2
    go_ret3
    exact ⟨rfl, Below.refl _ _⟩
/-- What a call on a map leaves as it was: all but its box. -/
structure Ko (w w' : World) (g : Nat) : Prop where
  os : w'.os = w.os
  tape : w'.tape = w.tape
  output : w'.output = w.output
  size : w.heap.size ≤ w'.heap.size
  block : ∀ j, j < w.heap.size → j ≠ g → w'.heap[j]? = w.heap[j]?
theorem Ko.below {w w' : World} {g B : Nat} (h : Ko w w' g) (hg : B ≤ g) (hB : B ≤ w.heap.size) : Below B w w' := ⟨h.os, h.tape, h.output, h.size, fun j hj => h.block j (by omega) (by omega)⟩
theorem Ko.of {w w' : World} {g : Nat} (h : Below w.heap.size w w') : Ko w w' g := ⟨h.os, h.tape, h.output, h.size, fun j hj _ => h.block j hj⟩
theorem Ko.trans {a b c : World} {g : Nat} (h : Ko a b g) (k : Ko b c g) : Ko a c g := ⟨k.os.trans h.os, k.tape.trans h.tape, k.output.trans h.output, Nat.le_trans h.size k.size, fun j hj hn => (k.block j (Nat.lt_of_lt_of_le hj h.size) hn).trans (h.block j hj hn)⟩
theorem Ko.keepN {w w' : World} {g : Nat} {t : TypeId} {cs : Array Value} (h : Ko w w' g) (hb : Blk w g t cs) (ht : t ≠ 61) : KeepN w w' := fun b cs2 x => (h.block b x.lt (fun e => by
  subst e
  unfold Blk at hb x
  rw [hb] at x
  cases x
  exact ht rfl)).trans x
/-- A map's root is another tree. -/
theorem root_set {w w1 : World} {g : Nat} {t' : T} {p p1 : Option Addr} (hb : Blk w g 57 #[.pointer p]) (h1 : Below w.heap.size w w1) (ht : IsT w1 t' p1) : Mt (w1.setCell ⟨g, 0, none⟩ (.pointer p1)) g t' ∧ Ko w (w1.setCell ⟨g, 0, none⟩ (.pointer p1)) g := by
  have hb1 := hb.below h1 hb.lt
  refine ⟨⟨p1, hb1.set_ 0 _, ht.keep (KeepN.set hb1 (by decide) 0 _)⟩, ⟨h1.os, h1.tape, h1.output, ?_, fun j hj hn => (Below.heap_setCell w1 ⟨g, 0, none⟩ _ j hn).trans (h1.block j hj)⟩⟩
  have := h1.size
  simpa [World.setCell] using this
theorem put_map {w : World} {g : Nat} {t : T} (h : Mt w g t) (hs : t.size ≤ 40000) (k : ByteArray) (v : Int) : Calls Try.prog 11 #[.pointer (some ⟨g, 0, none⟩), .string k, .int .i64 v] w fun e w' => e = .returned (.bool (decide (t.size < (Tr.put k v t).size))) ∧ Mt w' g (Tr.put k v t) ∧ Ko w w' g := by
  have HLN := Lib.hid (len_any h)
  obtain ⟨p, h1, h2⟩ := h
  have c0 : w.cell? ⟨g, 0, none⟩ = some (.pointer p) := h1.cell 0
  have HB := Lib.hid h1
  have HP := Lib.hid (put_any k v h2 (by omega))
  obtain ⟨t', ht'⟩ : ∃ t', Tr.put k v t = t' := ⟨_, rfl⟩
  rw [ht'] at HP ⊢
  obtain ⟨n, hn⟩ : ∃ n, t.size = n := ⟨_, rfl⟩
  rw [hn] at HLN ⊢
  obtain ⟨m, hm⟩ : ∃ m, t'.size = m := ⟨_, rfl⟩
  have HM := Lib.hid hm
  rw [hm]
  clear h1 h2 ht' hn hm
  go_enter Try.func11, Try.ntmps11
  go_wp2_with fail
  refine HLN.out.mono ?_
  rintro _ wz ⟨rfl, hw0⟩
  replace hw0 := hw0.symm
  subst hw0
  go_wp2_with fail
  refine HP.out.mono ?_
  rintro _ w1 ⟨p1, rfl, ht1, hb1⟩
  have HR := Lib.hid (root_set HB.out hb1 ht1)
  have b1 := HB.out.below hb1 HB.out.lt
  have d0 := b1.cell 0
  have f0 := b1.frozen 0
  clear ht1 hb1 b1
  go_wp2_with fail
  refine (len_any HR.out.1).mono ?_
  rintro _ wz ⟨rfl, hw0⟩
  replace hw0 := hw0.symm
  subst hw0
  rw [HM.out]
  go_wp2
  go_ret
  exact ⟨by first | rfl | (congr 2; simp) | congr 2, HR.out.1, HR.out.2⟩
theorem del_map {w : World} {g : Nat} {t : T} (h : Mt w g t) (hs : t.size ≤ 40000) (k : ByteArray) : Calls Try.prog 12 #[.pointer (some ⟨g, 0, none⟩), .string k] w fun e w' => e = .returned (.bool (decide ((Tr.del t k).size < t.size))) ∧ Mt w' g (Tr.del t k) ∧ Ko w w' g := by
  have HLN := Lib.hid (len_any h)
  obtain ⟨p, h1, h2⟩ := h
  have c0 : w.cell? ⟨g, 0, none⟩ = some (.pointer p) := h1.cell 0
  have HB := Lib.hid h1
  have HP := Lib.hid (del_any t k h2 (by omega))
  obtain ⟨t', ht'⟩ : ∃ t', Tr.del t k = t' := ⟨_, rfl⟩
  rw [ht'] at HP ⊢
  obtain ⟨n, hn⟩ : ∃ n, t.size = n := ⟨_, rfl⟩
  rw [hn] at HLN ⊢
  obtain ⟨m, hm⟩ : ∃ m, t'.size = m := ⟨_, rfl⟩
  have HM := Lib.hid hm
  rw [hm]
  clear h1 h2 ht' hn hm
  go_enter Try.func12, Try.ntmps12
  go_wp2_with fail
  refine HLN.out.mono ?_
  rintro _ wz ⟨rfl, hw0⟩
  replace hw0 := hw0.symm
  subst hw0
  go_wp2_with fail
  refine HP.out.mono ?_
  rintro _ w1 ⟨p1, rfl, ht1, hb1⟩
  have HR := Lib.hid (root_set HB.out hb1 ht1)
  have b1 := HB.out.below hb1 HB.out.lt
  have d0 := b1.cell 0
  have f0 := b1.frozen 0
  clear ht1 hb1 b1
  go_wp2_with fail
  refine (len_any HR.out.1).mono ?_
  rintro _ wz ⟨rfl, hw0⟩
  replace hw0 := hw0.symm
  subst hw0
  rw [HM.out]
  go_wp2
  go_ret
  exact ⟨by first | rfl | (congr 2; simp) | congr 2, HR.out.1, HR.out.2⟩
theorem new_map (w : World) : Calls Try.prog 9 #[] w fun e w' => ∃ g, e = .returned (.pointer (some ⟨g, 0, none⟩)) ∧ Mt w' g .nil ∧ Below w.heap.size w w' ∧ w.heap.size ≤ g := by
  go_enter Try.func9, Try.ntmps9
  go_wp2
  go_ret
  exact ⟨w.heap.size, rfl, ⟨none, Blk.new w 57 _, rfl⟩, (Below.refl _ w).alloc (Nat.le_refl _) _, Nat.le_refl _⟩
end Go.Proofs.Ytmapfbnfcbkjpaa.OI
