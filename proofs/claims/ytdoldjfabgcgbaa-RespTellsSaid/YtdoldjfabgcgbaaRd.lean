/- The reader: what it holds, what it reads. -/
import Derived.Test.YtdoldjfabgcgbaaRNum
import Derived.Lib.ConvBytes
namespace Go.Proofs.Ytdoldjfabgcgbaa
open Go.RowKit
set_option maxRecDepth 20000
set_option linter.unusedVariables false
def Rd (w : World) (g : Nat) (s : ByteArray) (p e : Int) : Prop := Blk w g 65 #[.string s, .int .i64 p, .int .i64 e]
theorem read_any {A : Option Addr} {len cap b off : Nat} {w : World} {l : List UInt8} (h : Byt w A len cap b off l) :
    Calls Try.prog 41 #[.slice A len cap] w fun e w' => e = .returned (.pointer (some ⟨w.heap.size, 0, none⟩)) ∧ Rd w' w.heap.size ⟨l.toArray⟩ 0 0 ∧ Below w.heap.size w w' := by
  have HT := byt_text h
  clear h
  go_enter Try.func41, Try.ntmps41
  go_wp2
  go_ret
  exact ⟨rfl, Blk.new _ _ _, (Below.refl _ _).alloc (Nat.le_refl _) _⟩
theorem left_any {w : World} {g : Nat} {s : ByteArray} {p e : Int} (h : Rd w g s p e) (h0 : 0 ≤ p) (hp : p ≤ s.size) (hs : s.size ≤ 1000000) :
    Calls Try.prog 45 #[.pointer (some ⟨g, 0, none⟩)] w fun e w' => e = .returned (.int .i64 ((s.size : Int) - p)) ∧ Below w.heap.size w w' := by
  have c0 := h.cell 0
  have c1 := h.cell 1
  simp only [List.getElem?_toArray, List.getElem?_cons_zero, List.getElem?_cons_succ] at c0 c1
  have HR := Lib.hid h
  clear h
  go_enter Try.func45, Try.ntmps45
  go_wp2
  go_quiet (fail)
  go_wp2
  go_ret
  exact ⟨rfl, below_drewN (Below.refl _ _) _⟩
theorem err_any {w : World} {g : Nat} {s : ByteArray} {p e : Int} (h : Rd w g s p e) :
    Calls Try.prog 44 #[.pointer (some ⟨g, 0, none⟩)] w fun r w' => r = .returned (.int .i64 e) ∧ Below w.heap.size w w' := by
  have c2 := h.cell 2
  simp only [List.getElem?_toArray, List.getElem?_cons_zero, List.getElem?_cons_succ] at c2
  have HR := Lib.hid h
  clear h
  go_enter Try.func44, Try.ntmps44
  go_wp2
  go_ret
  exact ⟨rfl, Below.refl _ _⟩
theorem rdn_err {w : World} {g : Nat} {s : ByteArray} {p e : Int} (h : Rd w g s p e) (he : e ≠ 0) :
    Calls Try.prog 42 #[.pointer (some ⟨g, 0, none⟩)] w fun r w' => r = .returned (.tuple #[.int .i64 0, .int .i64 0, .int .i64 e]) ∧ Below w.heap.size w w' := by
  have c0 := h.cell 0
  have c1 := h.cell 1
  have c2 := h.cell 2
  simp only [List.getElem?_toArray, List.getElem?_cons_zero, List.getElem?_cons_succ] at c0 c1 c2
  have HR := Lib.hid h
  clear h
  have hb : (e != 0) = true := by simpa using he
  go_enter Try.func42, Try.ntmps42
  go_wp2
  go_quiet (fail)
  go_wp2
  go_ret3
  exact ⟨rfl, below_drewN (Below.refl _ _) _⟩
theorem rdn_end {w : World} {g : Nat} {s : ByteArray} {p : Int} (h : Rd w g s p 0) (hs : s.size ≤ 1000000) (hp : p = s.size) :
    Calls Try.prog 42 #[.pointer (some ⟨g, 0, none⟩)] w fun r w' => r = .returned (.tuple #[.int .i64 0, .int .i64 0, .int .i64 14]) ∧ Below w.heap.size w w' := by
  have c0 := h.cell 0
  have c1 := h.cell 1
  have c2 := h.cell 2
  simp only [List.getElem?_toArray, List.getElem?_cons_zero, List.getElem?_cons_succ] at c0 c1 c2
  have CL := Lib.hid (left_any h (by omega) (by omega) hs)
  have HR := Lib.hid h
  have hz : (s.size : Int) - p = 0 := by omega
  clear h
  go_enter Try.func42, Try.ntmps42
  go_wp2_with (go_at_call 45; refine CL.out.mono ?_; rintro _ w1 ⟨rfl, h1⟩; rw [hz]; have H1 := Lib.hid h1; clear h1)
  go_ret3
  exact ⟨rfl, H1.out⟩
theorem i64_of_u8 (c : UInt8) : wrap64 (c.toNat : Int) = (c.toNat : Int) := by
  have := c.toNat_lt
  exact IntWalk.wrap64_in _ (by omega)
theorem rdn_one {w : World} {g : Nat} {s : ByteArray} {P : Nat} {c : UInt8} (h : Rd w g s P 0) (hs : s.size ≤ 1000000) (hp : s.data.toList[P]? = some c) (hc : (c.toNat : Int) < 248) :
    Calls Try.prog 42 #[.pointer (some ⟨g, 0, none⟩)] w fun r w' => r = .returned (.tuple #[.int .i64 (c.toNat : Int), .int .i64 1, .int .i64 0]) ∧ Below w.heap.size w w' := by
  have c2 := h.cell 2
  simp only [List.getElem?_toArray, List.getElem?_cons_zero, List.getElem?_cons_succ] at c2
  have hP : P < s.size := by have := (List.getElem?_eq_some_iff.1 hp).1; simpa using this
  have CL := Lib.hid (left_any h (by omega) (by omega) hs)
  have HR := Lib.hid h
  have IX := idx_str s P P rfl hp
  have hz : ((s.size : Int) - (P : Int) == 0) = false := by simp; omega
  have ht := i64_of_u8 c
  clear h hp
  go_enter Try.func42, Try.ntmps42
  go_wp2_with (
    go_at_call 45
    refine CL.out.mono ?_
    rintro _ w1 ⟨rfl, h1⟩
    have H1 := Lib.hid h1
    have HB := HR.out.below h1 (HR.out.lt)
    have c0 := HB.cell 0
    have c1 := HB.cell 1
    simp only [List.getElem?_toArray, List.getElem?_cons_zero, List.getElem?_cons_succ] at c0 c1
    clear h1 HB)
  go_quiet (fail)
  go_wp2
  go_ret3
  exact ⟨rfl, below_drewN H1.out _⟩
theorem rdn_cut {w : World} {g : Nat} {s : ByteArray} {P : Nat} {c : UInt8} (h : Rd w g s P 0) (hs : s.size ≤ 1000000) (hp : s.data.toList[P]? = some c) (hc : ¬ (c.toNat : Int) < 248) (hk : (s.size : Int) - P < 1 + ((c.toNat : Int) - 247)) :
    Calls Try.prog 42 #[.pointer (some ⟨g, 0, none⟩)] w fun r w' => r = .returned (.tuple #[.int .i64 0, .int .i64 0, .int .i64 14]) ∧ Below w.heap.size w w' := by
  have c2 := h.cell 2
  simp only [List.getElem?_toArray, List.getElem?_cons_zero, List.getElem?_cons_succ] at c2
  have hP : P < s.size := by have := (List.getElem?_eq_some_iff.1 hp).1; simpa using this
  have HR := Lib.hid h
  have IX := idx_str s P P rfl hp
  have hz : ((s.size : Int) - (P : Int) == 0) = false := by simp; omega
  have ht := i64_of_u8 c
  have hc8 : (c.toNat : Int) < 256 := by have := c.toNat_lt; omega
  clear h hp
  go_enter Try.func42, Try.ntmps42
  go_wp2_with (
    go_at_call 45
    refine (left_any HR.out (by omega) (by omega) hs).mono ?_
    rintro _ w1 ⟨rfl, h1⟩
    have H1 := Lib.hid h1
    have HB := HR.out.below h1 (HR.out.lt)
    have c0 := HB.cell 0
    have c1 := HB.cell 1
    have HR1 := Lib.hid HB
    simp only [List.getElem?_toArray, List.getElem?_cons_zero, List.getElem?_cons_succ] at c0 c1
    clear h1 HB)
  go_quiet (fail)
  go_wp2_with (
    go_at_call 45

    refine (left_any (Blk.drewN HR1.out _) (by omega) (by omega) hs).mono ?_
    rintro _ w2 ⟨rfl, h2⟩
    have H2 := Lib.hid ((below_drewN H1.out _).trans (h2.mono H1.out.size))
    clear h2)

  go_ret3
  exact ⟨rfl, H2.out⟩
theorem sub_at (s : ByteArray) (P K : Nat) (h : P + 1 + K ≤ s.size) (i j : Int) (hi : i = P + 1) (hj : j = P + 1 + K) (W : World) : (Instr.slice 9 (.string s) (some (.int .i64 i)) (some (.int .i64 j)) none).run Try.prog W = .ok (.string ⟨((s.data.toList.drop (P + 1)).take K).toArray⟩) W := by
  subst hi; subst hj
  have h := run_slice_string (P := Try.prog) (w := W) 9 s .i64 .i64 ((P : Int) + 1) ((P : Int) + 1 + (K : Int)) Try.underlying9 (by omega) (by omega) (by omega)
  rw [h]
  congr 2
  rw [show ((P : Int) + 1 + (K : Int)).toNat = P + 1 + K by omega, show ((P : Int) + 1).toNat = P + 1 by omega]
  apply ByteArray.ext
  rw [ByteArray.data_extract]
  apply Array.toList_inj.1
  rw [Array.toList_extract, List.extract_eq_take_drop]
  simp
def vl (l : List UInt8) : Nat := l.foldl (fun a c => a * 256 + c.toNat) 0
theorem vl_snoc (l : List UInt8) (c : UInt8) : vl (l ++ [c]) = vl l * 256 + c.toNat := by simp [vl]
theorem vl_acc (l : List UInt8) : ∀ a : Nat, l.foldl (fun a c => a * 256 + c.toNat) a = a * 256 ^ l.length + vl l := by
  induction l with
  | nil => intro a; simp [vl]
  | cons c l ih =>
    intro a
    unfold vl
    rw [List.foldl_cons, List.foldl_cons, ih, ih, List.length_cons, Nat.pow_succ, Nat.zero_mul, Nat.zero_add, Nat.add_mul, Nat.mul_assoc, Nat.mul_comm 256]
    omega
theorem vl_cons (c : UInt8) (l : List UInt8) : vl (c :: l) = c.toNat * 256 ^ l.length + vl l := by
  rw [← vl_acc l c.toNat]
  unfold vl
  rw [List.foldl_cons, Nat.zero_mul, Nat.zero_add]
theorem vl_lt (l : List UInt8) : vl l < 256 ^ l.length := by
  induction l with
  | nil => simp [vl]
  | cons c l ih =>
    have hc := c.toNat_lt
    rw [vl_cons, List.length_cons, Nat.pow_succ]
    have := Nat.mul_le_mul_right (256 ^ l.length) (show c.toNat ≤ 255 by omega)
    omega
theorem vl_step (l : List UInt8) (c : UInt8) (h : l.length ≤ 7) : bits .or .u64 (IntKind.u64.wrap ((vl l : Int) * 256)) (IntKind.u64.wrap (c.toNat : Int)) = ((vl (l ++ [c]) : Nat) : Int) := by
  have hv : vl l < 256 ^ 7 := Nat.lt_of_lt_of_le (vl_lt l) (Nat.pow_le_pow_right (by omega) h)
  have hc := c.toNat_lt
  rw [vl_snoc, IntKind.wrap_u64, IntKind.wrap_u64, Int.emod_eq_of_lt (by omega) (by omega), Int.emod_eq_of_lt (by omega) (by omega), u64_or _ _ (by omega) (by omega) (by omega) (by omega),
    show ((vl l : Int) * 256).toNat = vl l * 256 by omega, Int.toNat_natCast, nat_join 8 _ _ (by omega) (by omega)]
def rwide (l : List UInt8) : Array Value := if (l.head? = some 0 ∨ vl l < 248) ∨ 9223372036854775807 < vl l then #[.int .i64 0, .int .i64 0, .int .i64 1] else #[.int .i64 (vl l), .int .i64 (1 + l.length), .int .i64 0]
theorem rwide_form {l : List UInt8} (h : (l.head? = some 0 ∨ vl l < 248) ∨ 9223372036854775807 < vl l) : Ending.returned (.tuple #[.int .i64 0, .int .i64 0, .int .i64 1]) = .returned (.tuple (rwide l)) := by
  unfold rwide; rw [if_pos h]
theorem head_zero {l t : List UInt8} {d : UInt8} (h : l = d :: t) (h0 : ((d.toNat : Int) == 0) = true) : l.head? = some 0 := by
  subst h
  have h1 : (d.toNat : Int) = 0 := by simpa using h0
  have h2 : d = 0 := UInt8.toNat_inj.1 (by simp; omega)
  rw [h2]; rfl
theorem rwide_ok {l t : List UInt8} {d : UInt8} {j : Nat} (h : l = d :: t) (h0 : ((d.toNat : Int) == 0) = false) (h1 : ¬ vl l < 248) (h2 : ¬ 9223372036854775807 < vl l) (hj : l.length = j) :
    Ending.returned (.tuple #[.int .i64 (wrap64 (vl l : Int)), .int .i64 (1 + (247 + (j : Int) - 247)), .int .i64 0]) = .returned (.tuple (rwide l)) := by
  have h3 : (d.toNat : Int) ≠ 0 := by simpa using h0
  have h4 : l.head? ≠ some 0 := by
    subst h
    intro e
    have : d = 0 := by simpa using e
    subst this
    exact h3 rfl
  unfold rwide
  rw [if_neg (fun h => h.elim (fun h => h.elim h4 h1) h2), IntWalk.wrap64_in _ (by omega), hj, show 1 + (247 + (j : Int) - 247) = 1 + (j : Int) by omega]
theorem rdn_wide {w : World} {g : Nat} {s : ByteArray} {P K : Nat} {c : UInt8} {l : List UInt8} (h : Rd w g s P 0) (hs : s.size ≤ 1000000) (hp : s.data.toList[P]? = some c) (hc : ¬ (c.toNat : Int) < 248) (hK : (c.toNat : Int) = 247 + K) (hk : P + 1 + K ≤ s.size) (hl : (s.data.toList.drop (P + 1)).take K = l) :
    Calls Try.prog 42 #[.pointer (some ⟨g, 0, none⟩)] w fun r w' => r = .returned (.tuple (rwide l)) ∧ Below w.heap.size w w' := by
  have c2 := h.cell 2
  simp only [List.getElem?_toArray, List.getElem?_cons_zero, List.getElem?_cons_succ] at c2
  have hP : P < s.size := by have := (List.getElem?_eq_some_iff.1 hp).1; simpa using this
  have hK8 : K ≤ 8 := by have := c.toNat_lt; omega
  have HR := Lib.hid h
  have IX := idx_str s P P rfl hp
  have IS := sub_at s P K hk ((P : Int) + 1) ((P : Int) + 1 + ((c.toNat : Int) - 247)) rfl (by omega)
  rw [hl] at IS
  have hln : l.length = K := by rw [← hl, List.length_take, List.length_drop, Array.length_toList]; show min K (s.size - (P + 1)) = K; omega
  have hz : ((s.size : Int) - (P : Int) == 0) = false := by simp; omega
  have ht := i64_of_u8 c
  have hc8 : (c.toNat : Int) < 256 := by have := c.toNat_lt; omega
  have hs2 : ¬ (s.size : Int) - (P : Int) < 1 + ((c.toNat : Int) - 247) := by omega
  have i1 : wrap64 ((P : Int) + 1) = (P : Int) + 1 := IntWalk.wrap64_in _ (by omega)
  have i2 : wrap64 ((P : Int) + 1 + ((c.toNat : Int) - 247)) = (P : Int) + 1 + ((c.toNat : Int) - 247) := IntWalk.wrap64_in _ (by omega)
  have kc := fun (W : World) (x : ByteArray) => run_bytes_of_string (P := Try.prog) W 9 26 5 x Try.underlying9 Try.underlying26 Try.underlying5
  have HLQ := Lib.hid hl
  clear h hp hl
  go_enter Try.func42, Try.ntmps42
  go_wp2_with (
    go_at_call 45
    refine (left_any HR.out (by omega) (by omega) hs).mono ?_
    rintro _ w1 ⟨rfl, h1⟩
    have H1 := Lib.hid h1
    have HB := HR.out.below h1 (HR.out.lt)
    have c0 := HB.cell 0
    have c1 := HB.cell 1
    have HR1 := Lib.hid HB
    simp only [List.getElem?_toArray, List.getElem?_cons_zero, List.getElem?_cons_succ] at c0 c1
    clear h1 HB)
  go_quiet (fail)
  go_wp2_with (
    go_at_call 45
    refine (left_any (Blk.drewN HR1.out _) (by omega) (by omega) hs).mono ?_
    rintro _ w2 ⟨rfl, h2⟩
    have H2 := Lib.hid ((below_drewN H1.out _).trans (h2.mono H1.out.size))
    have HB := Blk.below (Blk.drewN HR1.out nq) h2 HR1.out.lt
    have c0 := HB.cell 0
    have c1 := HB.cell 1
    have HR2 := Lib.hid HB
    simp only [List.getElem?_toArray, List.getElem?_cons_zero, List.getElem?_cons_succ] at c0 c1
    clear h2 HB HR HR1 H1)
  go_region
  have ex : s.extract (P + 1) (P + 1 + K) = ⟨l.toArray⟩ := by
    rw [← HLQ.out]
    apply ByteArray.ext
    rw [ByteArray.data_extract]
    apply Array.toList_inj.1
    rw [Array.toList_extract, List.extract_eq_take_drop]
    simp
  rw [ex]
  generalize hcap : grownCap w2.drew K 0 5 = cap
  generalize hW : World.drew (World.drew (World.alloc w2 _)) = W3
  have hrow : ∀ j u, l[j]? = some u → W3.cell? ⟨w2.heap.size, j, none⟩ = some (.int .u8 (u.toNat : Int)) := by
    intro j u hu
    rw [← hW]
    show (World.alloc w2 _).cell? _ = _
    rw [World.cell?_alloc_mark]
    have hj := (List.getElem?_eq_some_iff.1 hu).1
    unfold bytesRow
    rw [Array.getElem?_append_left (by simpa using hj), Array.getElem?_map]
    simp [hu]
  have HRd : Rd W3 g s P 0 := by
    rw [← hW]
    exact Blk.alloc HR2.out _
  have HBe : Below w.heap.size w W3 := by
    rw [← hW]
    exact ((H2.out.alloc H2.out.size _).drew).drew
  clear hW hcap kc c0 c1 ex
  have HROW := Lib.hid hrow
  have HRD := Lib.hid HRd
  have HBE := Lib.hid HBe
  clear hrow HRd HBe HR2 H2
  go_wp2
  go_loop [6, 61] (fun u i => ∃ j : Nat, j ≤ K ∧ i = .int .i64 (j : Int) ∧ u = .int .u64 (vl (l.take j) : Int)) (fun _ i => K - (intOf i).toNat)
  case atStart => exact ⟨0, Nat.zero_le _, rfl, rfl⟩
  case round =>
    obtain ⟨j, hj, rfl, rfl⟩ := hrel
    by_cases hlt : j < K
    · have hjl : j < l.length := by omega
      have hc3 := HROW.out j l[j] (List.getElem?_eq_getElem hjl)
      have hsn := Lib.hid (show l.take (j + 1) = l.take j ++ [l[j]] from List.take_succ_eq_append_getElem hjl)
      have hor := vl_step (l.take j) l[j] (by rw [List.length_take]; omega)
      generalize l[j] = d at *
      go_wp2
      all_goals go_round
      case rel => exact ⟨j + 1, by omega, by go_num, by rw [hsn.out]⟩
      case measure => simp [intOf]; omega
    · have hjk : j = K := by omega
      subst hjk
      have hK1 : 1 ≤ j := by omega
      obtain ⟨d, t, hdt⟩ : ∃ d t, l = d :: t := by
        cases l with
        | nil => simp at hln; omega
        | cons d t => exact ⟨d, t, rfl⟩
      have hd0 : s.data.toList[P + 1]? = some d := by
        have := congrArg (·[0]?) HLQ.out
        simp only [hdt, List.getElem?_cons_zero] at this
        rw [List.getElem?_take] at this
        rw [if_pos (by omega), List.getElem?_drop] at this
        simpa using this
      have IX1 := idx_str s (P + 1) ((P : Int) + 1) (by omega) hd0
      have HDT := Lib.hid hdt
      clear hd0 hdt
      have hall : l.take j = l := List.take_of_length_le (by omega)
      rw [hall]
      have d0 := HRD.out.cell 0
      have d1 := HRD.out.cell 1
      simp only [List.getElem?_toArray, List.getElem?_cons_zero, List.getElem?_cons_succ] at d0 d1
      go_wp2
      have HL2 := Lib.hid hln
      clear hln hall
      rcases Bool.eq_false_or_eq_true ((d.toNat : Int) == 0) with h0 | h0
      · go_quiet (fail)
        go_wp2
        go_ret3
        exact ⟨rwide_form (.inl (.inl (head_zero HDT.out h0))), below_drewN HBE.out _⟩
      · rcases Bool.eq_false_or_eq_true (decide ((vl l : Int) < 248)) with h1 | h1
        · go_quiet (fail)
          go_wp2
          go_ret3
          exact ⟨rwide_form (.inl (.inr (by have := of_decide_eq_true h1; omega))), below_drewN HBE.out _⟩
        · rcases Bool.eq_false_or_eq_true (decide (9223372036854775807 < (vl l : Int))) with h2 | h2
          · go_quiet (fail)
            go_wp2
            go_ret3
            exact ⟨rwide_form (.inr (by have := of_decide_eq_true h2; omega)), below_drewN HBE.out _⟩
          · go_quiet (fail)
            go_wp2
            go_ret3
            exact ⟨rwide_ok HDT.out h0 (by have := of_decide_eq_false h1; omega) (by have := of_decide_eq_false h2; omega) HL2.out, below_drewN HBE.out _⟩
end Go.Proofs.Ytdoldjfabgcgbaa
