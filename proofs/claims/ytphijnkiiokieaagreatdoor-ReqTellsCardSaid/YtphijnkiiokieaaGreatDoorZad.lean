/- Texts of one proof, joined. -/
import Derived.Test.YtphijnkiiokieaaGreatDoorZac
import Derived.Lib.ConvBytes
set_option linter.unusedVariables false
set_option linter.unusedSimpArgs false
set_option maxRecDepth 100000
set_option maxHeartbeats 80000000
namespace Go.Proofs.YtphijnkiiokieaaGreatDoor
open Go.RowKit
def Rd (w : World) (g : Nat) (s : ByteArray) (p e : Int) : Prop := Blk w g 81 #[.string s, .int .i64 p, .int .i64 e]
theorem read_any {A : Option Addr} {len cap b off : Nat} {w : World} {l : List UInt8} (h : Byt w A len cap b off l) :
  Calls Tryz.prog 54 #[.slice A len cap] w fun e w' => e = .returned (.pointer (some ⟨w.heap.size, 0, none⟩)) ∧ Rd w' w.heap.size ⟨l.toArray⟩ 0 0 ∧ Below w.heap.size w w' := by
 have HT := byt_text h; clear h
 go_enter Tryz.func54, Tryz.ntmps54
 go_wp2
 go_ret
 exact ⟨rfl, Blk.new _ _ _, (Below.refl _ _).alloc (Nat.le_refl _) _⟩
theorem left_any {w : World} {g : Nat} {s : ByteArray} {p e : Int} (h : Rd w g s p e) (h0 : 0 ≤ p) (hp : p ≤ s.size) (hs : s.size ≤ 1000000) :
  Calls Tryz.prog 60 #[.pointer (some ⟨g, 0, none⟩)] w fun e w' => e = .returned (.int .i64 ((s.size : Int) - p)) ∧ Below w.heap.size w w' := by
 have c0 := h.cell 0; have c1 := h.cell 1; simp only [List.getElem?_toArray, List.getElem?_cons_zero, List.getElem?_cons_succ] at c0 c1; have HR := Zh h; clear h
 go_enter Tryz.func60, Tryz.ntmps60
 go_wp2
 go_quiet (fail)
 go_wp2
 go_ret
 exact ⟨rfl, below_drewN (Below.refl _ _) _⟩
theorem err_any {w : World} {g : Nat} {s : ByteArray} {p e : Int} (h : Rd w g s p e) :
  Calls Tryz.prog 59 #[.pointer (some ⟨g, 0, none⟩)] w fun r w' => r = .returned (.int .i64 e) ∧ Below w.heap.size w w' := by
 have c2 := h.cell 2; simp only [List.getElem?_toArray, List.getElem?_cons_zero, List.getElem?_cons_succ] at c2; have HR := Zh h; clear h
 go_enter Tryz.func59, Tryz.ntmps59
 go_wp2
 go_ret
 exact ⟨rfl, Below.refl _ _⟩
theorem rdn_err {w : World} {g : Nat} {s : ByteArray} {p e : Int} (h : Rd w g s p e) (he : e ≠ 0) :
  Calls Tryz.prog 58 #[.pointer (some ⟨g, 0, none⟩)] w fun r w' => r = .returned (.tuple #[.int .i64 0, .int .i64 0, .int .i64 e]) ∧ Below w.heap.size w w' := by
 have c0 := h.cell 0; have c1 := h.cell 1; have c2 := h.cell 2; simp only [List.getElem?_toArray, List.getElem?_cons_zero, List.getElem?_cons_succ] at c0 c1 c2; have HR := Zh h; clear h; have hb : (e != 0) = true := by simpa using he
 go_enter Tryz.func58, Tryz.ntmps58
 go_wp2
 go_quiet (fail)
 go_wp2
 go_ret3
 exact ⟨rfl, below_drewN (Below.refl _ _) _⟩
theorem rdn_end {w : World} {g : Nat} {s : ByteArray} {p : Int} (h : Rd w g s p 0) (hs : s.size ≤ 1000000) (hp : p = s.size) :
  Calls Tryz.prog 58 #[.pointer (some ⟨g, 0, none⟩)] w fun r w' => r = .returned (.tuple #[.int .i64 0, .int .i64 0, .int .i64 14]) ∧ Below w.heap.size w w' := by
 have c0 := h.cell 0; have c1 := h.cell 1; have c2 := h.cell 2; simp only [List.getElem?_toArray, List.getElem?_cons_zero, List.getElem?_cons_succ] at c0 c1 c2; have CL := Zh (left_any h (by omega) (by omega) hs); have HR := Zh h; have hz : (s.size : Int) - p = 0 := by omega
 clear h
 go_enter Tryz.func58, Tryz.ntmps58
 go_wp2_with (go_at_call 60; refine CL.out.mono ?_; rintro _ w1 ⟨rfl, h1⟩; rw [hz]; have H1 := Zh h1; clear h1)
 go_ret3
 exact ⟨rfl, H1.out⟩
theorem i64_of_u8 (c : UInt8) : wrap64 (c.toNat : Int) = (c.toNat : Int) := by
 have := c.toNat_lt
 exact IntWalk.wrap64_in _ (by omega)
theorem rdn_one {w : World} {g : Nat} {s : ByteArray} {P : Nat} {c : UInt8} (h : Rd w g s P 0) (hs : s.size ≤ 1000000) (hp : s.data.toList[P]? = some c) (hc : (c.toNat : Int) < 248) :
  Calls Tryz.prog 58 #[.pointer (some ⟨g, 0, none⟩)] w fun r w' => r = .returned (.tuple #[.int .i64 (c.toNat : Int), .int .i64 1, .int .i64 0]) ∧ Below w.heap.size w w' := by
 have c2 := h.cell 2; simp only [List.getElem?_toArray, List.getElem?_cons_zero, List.getElem?_cons_succ] at c2; have hP : P < s.size := by have := (List.getElem?_eq_some_iff.1 hp).1; simpa using this
 have CL := Zh (left_any h (by omega) (by omega) hs); have HR := Zh h; have IX := idx_str s P P rfl hp; have hz : ((s.size : Int) - (P : Int) == 0) = false := by simp; omega
 have ht := i64_of_u8 c; clear h hp
 go_enter Tryz.func58, Tryz.ntmps58
 go_wp2_with (
  go_at_call 60
  refine CL.out.mono ?_; rintro _ w1 ⟨rfl, h1⟩; have H1 := Zh h1; have HB := HR.out.below h1 (HR.out.lt); have c0 := HB.cell 0; have c1 := HB.cell 1; simp only [List.getElem?_toArray, List.getElem?_cons_zero, List.getElem?_cons_succ] at c0 c1
  clear h1 HB)
 go_quiet (fail)
 go_wp2
 go_ret3
 exact ⟨rfl, below_drewN H1.out _⟩
theorem rdn_cut {w : World} {g : Nat} {s : ByteArray} {P : Nat} {c : UInt8} (h : Rd w g s P 0) (hs : s.size ≤ 1000000) (hp : s.data.toList[P]? = some c) (hc : ¬ (c.toNat : Int) < 248) (hk : (s.size : Int) - P < 1 + ((c.toNat : Int) - 247)) :
  Calls Tryz.prog 58 #[.pointer (some ⟨g, 0, none⟩)] w fun r w' => r = .returned (.tuple #[.int .i64 0, .int .i64 0, .int .i64 14]) ∧ Below w.heap.size w w' := by
 have c2 := h.cell 2; simp only [List.getElem?_toArray, List.getElem?_cons_zero, List.getElem?_cons_succ] at c2; have hP : P < s.size := by have := (List.getElem?_eq_some_iff.1 hp).1; simpa using this
 have HR := Zh h; have IX := idx_str s P P rfl hp; have hz : ((s.size : Int) - (P : Int) == 0) = false := by simp; omega
 have ht := i64_of_u8 c; have hc8 : (c.toNat : Int) < 256 := by have := c.toNat_lt; omega
 clear h hp
 go_enter Tryz.func58, Tryz.ntmps58
 go_wp2_with (
  go_at_call 60
  refine (left_any HR.out (by omega) (by omega) hs).mono ?_; rintro _ w1 ⟨rfl, h1⟩; have H1 := Zh h1; have HB := HR.out.below h1 (HR.out.lt); have c0 := HB.cell 0; have c1 := HB.cell 1; have HR1 := Zh HB; simp only [List.getElem?_toArray, List.getElem?_cons_zero, List.getElem?_cons_succ] at c0 c1
  clear h1 HB)
 go_quiet (fail)
 go_wp2_with (
  go_at_call 60
  refine (left_any (Blk.drewN HR1.out _) (by omega) (by omega) hs).mono ?_; rintro _ w2 ⟨rfl, h2⟩; have H2 := Zh ((below_drewN H1.out _).trans (h2.mono H1.out.size))
  clear h2)
 go_ret3
 exact ⟨rfl, H2.out⟩
theorem sub_at (s : ByteArray) (P K : Nat) (h : P + 1 + K ≤ s.size) (i j : Int) (hi : i = P + 1) (hj : j = P + 1 + K) (W : World) : (Instr.slice 9 (.string s) (some (.int .i64 i)) (some (.int .i64 j)) none).run Tryz.prog W = .ok (.string ⟨((s.data.toList.drop (P + 1)).take K).toArray⟩) W := by
 subst hi; subst hj
 have h := run_slice_string (P := Tryz.prog) (w := W) 9 s .i64 .i64 ((P : Int) + 1) ((P : Int) + 1 + (K : Int)) Tryz.underlying9 (by omega) (by omega) (by omega); rw [h]
 congr 2
 rw [show ((P : Int) + 1 + (K : Int)).toNat = P + 1 + K by omega, show ((P : Int) + 1).toNat = P + 1 by omega]
 apply ByteArray.ext
 rw [ByteArray.data_extract]
 apply Array.toList_inj.1
 rw [Array.toList_extract, List.extract_eq_take_drop]
 simp
def vl (l : List UInt8) : Nat := l.foldl (fun a c => a * 256 + c.toNat) 0
theorem vl_snoc (l : List UInt8) (c : UInt8) : vl (l ++ [c]) = vl l * 256 + c.toNat := by simp [vl]
theorem vl_acc (l : List UInt8) : ∀ a : Nat, l.foldl (fun a c => a * 256 + c.toNat) a = a * 256 ^ l.length + vl l := by
 induction l with
 | nil => intro a; simp [vl]
 | cons c l ih =>
  intro a
  unfold vl
  rw [List.foldl_cons, List.foldl_cons, ih, ih, List.length_cons, Nat.pow_succ, Nat.zero_mul, Nat.zero_add, Nat.add_mul, Nat.mul_assoc, Nat.mul_comm 256]
  omega
theorem vl_cons (c : UInt8) (l : List UInt8) : vl (c :: l) = c.toNat * 256 ^ l.length + vl l := by
 rw [← vl_acc l c.toNat]
 unfold vl
 rw [List.foldl_cons, Nat.zero_mul, Nat.zero_add]
theorem vl_lt (l : List UInt8) : vl l < 256 ^ l.length := by
 induction l with
 | nil => simp [vl]
 | cons c l ih =>
  have hc := c.toNat_lt; rw [vl_cons, List.length_cons, Nat.pow_succ]; have := Nat.mul_le_mul_right (256 ^ l.length) (show c.toNat ≤ 255 by omega)
  omega
theorem vl_step (l : List UInt8) (c : UInt8) (h : l.length ≤ 7) : bits .or .u64 (IntKind.u64.wrap ((vl l : Int) * 256)) (IntKind.u64.wrap (c.toNat : Int)) = ((vl (l ++ [c]) : Nat) : Int) := by
 have hv : vl l < 256 ^ 7 := Nat.lt_of_lt_of_le (vl_lt l) (Nat.pow_le_pow_right (by omega) h); have hc := c.toNat_lt
 rw [vl_snoc, IntKind.wrap_u64, IntKind.wrap_u64, Int.emod_eq_of_lt (by omega) (by omega), Int.emod_eq_of_lt (by omega) (by omega), u64_or _ _ (by omega) (by omega) (by omega) (by omega),
  show ((vl l : Int) * 256).toNat = vl l * 256 by omega, Int.toNat_natCast, nat_join 8 _ _ (by omega) (by omega)]
def rwide (l : List UInt8) : Array Value := if (l.head? = some 0 ∨ vl l < 248) ∨ 9223372036854775807 < vl l then #[.int .i64 0, .int .i64 0, .int .i64 1] else #[.int .i64 (vl l), .int .i64 (1 + l.length), .int .i64 0]
theorem rwide_form {l : List UInt8} (h : (l.head? = some 0 ∨ vl l < 248) ∨ 9223372036854775807 < vl l) : Ending.returned (.tuple #[.int .i64 0, .int .i64 0, .int .i64 1]) = .returned (.tuple (rwide l)) := by
 unfold rwide; rw [if_pos h]
theorem head_zero {l t : List UInt8} {d : UInt8} (h : l = d :: t) (h0 : ((d.toNat : Int) == 0) = true) : l.head? = some 0 := by
 subst h; have h1 : (d.toNat : Int) = 0 := by simpa using h0
 have h2 : d = 0 := UInt8.toNat_inj.1 (by simp; omega)
 rw [h2]; rfl
theorem rwide_ok {l t : List UInt8} {d : UInt8} {j : Nat} (h : l = d :: t) (h0 : ((d.toNat : Int) == 0) = false) (h1 : ¬ vl l < 248) (h2 : ¬ 9223372036854775807 < vl l) (hj : l.length = j) :
  Ending.returned (.tuple #[.int .i64 (wrap64 (vl l : Int)), .int .i64 (1 + (247 + (j : Int) - 247)), .int .i64 0]) = .returned (.tuple (rwide l)) := by
 have h3 : (d.toNat : Int) ≠ 0 := by simpa using h0
 have h4 : l.head? ≠ some 0 := by
  subst h; intro e; have : d = 0 := by simpa using e
  subst this
  exact h3 rfl
 unfold rwide
 rw [if_neg (fun h => h.elim (fun h => h.elim h4 h1) h2), IntWalk.wrap64_in _ (by omega), hj, show 1 + (247 + (j : Int) - 247) = 1 + (j : Int) by omega]
theorem rdn_wide {w : World} {g : Nat} {s : ByteArray} {P K : Nat} {c : UInt8} {l : List UInt8} (h : Rd w g s P 0) (hs : s.size ≤ 1000000) (hp : s.data.toList[P]? = some c) (hc : ¬ (c.toNat : Int) < 248) (hK : (c.toNat : Int) = 247 + K) (hk : P + 1 + K ≤ s.size) (hl : (s.data.toList.drop (P + 1)).take K = l) :
  Calls Tryz.prog 58 #[.pointer (some ⟨g, 0, none⟩)] w fun r w' => r = .returned (.tuple (rwide l)) ∧ Below w.heap.size w w' := by
 have c2 := h.cell 2; simp only [List.getElem?_toArray, List.getElem?_cons_zero, List.getElem?_cons_succ] at c2; have hP : P < s.size := by have := (List.getElem?_eq_some_iff.1 hp).1; simpa using this
 have hK8 : K ≤ 8 := by have := c.toNat_lt; omega
 have HR := Zh h; have IX := idx_str s P P rfl hp; have IS := sub_at s P K hk ((P : Int) + 1) ((P : Int) + 1 + ((c.toNat : Int) - 247)) rfl (by omega); rw [hl] at IS; have hln : l.length = K := by rw [← hl, List.length_take, List.length_drop, Array.length_toList]; show min K (s.size - (P + 1)) = K; omega
 have hz : ((s.size : Int) - (P : Int) == 0) = false := by simp; omega
 have ht := i64_of_u8 c; have hc8 : (c.toNat : Int) < 256 := by have := c.toNat_lt; omega
 have hs2 : ¬ (s.size : Int) - (P : Int) < 1 + ((c.toNat : Int) - 247) := by omega
 have i1 : wrap64 ((P : Int) + 1) = (P : Int) + 1 := IntWalk.wrap64_in _ (by omega); have i2 : wrap64 ((P : Int) + 1 + ((c.toNat : Int) - 247)) = (P : Int) + 1 + ((c.toNat : Int) - 247) := IntWalk.wrap64_in _ (by omega); have kc := fun (W : World) (x : ByteArray) => run_bytes_of_string (P := Tryz.prog) W 9 27 5 x Tryz.underlying9 Tryz.underlying27 Tryz.underlying5
 have HLQ := Zh hl; clear h hp hl
 go_enter Tryz.func58, Tryz.ntmps58
 go_wp2_with (
  go_at_call 60
  refine (left_any HR.out (by omega) (by omega) hs).mono ?_; rintro _ w1 ⟨rfl, h1⟩; have H1 := Zh h1; have HB := HR.out.below h1 (HR.out.lt); have c0 := HB.cell 0; have c1 := HB.cell 1; have HR1 := Zh HB; simp only [List.getElem?_toArray, List.getElem?_cons_zero, List.getElem?_cons_succ] at c0 c1
  clear h1 HB)
 go_quiet (fail)
 go_wp2_with (
  go_at_call 60
  refine (left_any (Blk.drewN HR1.out _) (by omega) (by omega) hs).mono ?_; rintro _ w2 ⟨rfl, h2⟩; have H2 := Zh ((below_drewN H1.out _).trans (h2.mono H1.out.size)); have HB := Blk.below (Blk.drewN HR1.out nq) h2 HR1.out.lt; have c0 := HB.cell 0; have c1 := HB.cell 1; have HR2 := Zh HB; simp only [List.getElem?_toArray, List.getElem?_cons_zero, List.getElem?_cons_succ] at c0 c1
  clear h2 HB HR HR1 H1)
 go_region
 have ex : s.extract (P + 1) (P + 1 + K) = ⟨l.toArray⟩ := by
  rw [← HLQ.out]
  apply ByteArray.ext
  rw [ByteArray.data_extract]
  apply Array.toList_inj.1
  rw [Array.toList_extract, List.extract_eq_take_drop]
  simp
 rw [ex]
 generalize hcap : grownCap w2.drew K 0 5 = cap
 generalize hW : World.drew (World.drew (World.alloc w2 _)) = W3
 have hrow : ∀ j u, l[j]? = some u → W3.cell? ⟨w2.heap.size, j, none⟩ = some (.int .u8 (u.toNat : Int)) := by
  intro j u hu; rw [← hW]
  show (World.alloc w2 _).cell? _ = _
  rw [World.cell?_alloc_mark]; have hj := (List.getElem?_eq_some_iff.1 hu).1
  unfold bytesRow
  rw [Array.getElem?_append_left (by simpa using hj), Array.getElem?_map]
  simp [hu]
 have HRd : Rd W3 g s P 0 := by
  rw [← hW]
  exact Blk.alloc HR2.out _
 have HBe : Below w.heap.size w W3 := by
  rw [← hW]
  exact ((H2.out.alloc H2.out.size _).drew).drew
 clear hW hcap kc c0 c1 ex; have HROW := Zh hrow; have HRD := Zh HRd; have HBE := Zh HBe; clear hrow HRd HBe HR2 H2
 go_wp2
 go_loop [6, 61] (fun u i => ∃ j : Nat, j ≤ K ∧ i = .int .i64 (j : Int) ∧ u = .int .u64 (vl (l.take j) : Int)) (fun _ i => K - (intOf i).toNat)
 case atStart => exact ⟨0, Nat.zero_le _, rfl, rfl⟩
 case round =>
  obtain ⟨j, hj, rfl, rfl⟩ := hrel
  by_cases hlt : j < K
  ·
   have hjl : j < l.length := by omega
   have hc3 := HROW.out j l[j] (List.getElem?_eq_getElem hjl); have hsn := Zh (show l.take (j + 1) = l.take j ++ [l[j]] from List.take_succ_eq_append_getElem hjl); have hor := vl_step (l.take j) l[j] (by rw [List.length_take]; omega)
   generalize l[j] = d at *
   go_wp2
   all_goals go_round
   case rel => exact ⟨j + 1, by omega, by go_num, by rw [hsn.out]⟩
   case measure => simp [intOf]; omega
  ·
   have hjk : j = K := by omega
   subst hjk; have hK1 : 1 ≤ j := by omega
   obtain ⟨d, t, hdt⟩ : ∃ d t, l = d :: t := by
    cases l with
    | nil => simp at hln; omega
    | cons d t => exact ⟨d, t, rfl⟩
   have hd0 : s.data.toList[P + 1]? = some d := by
    have := congrArg (·[0]?) HLQ.out; simp only [hdt, List.getElem?_cons_zero] at this; rw [List.getElem?_take] at this; rw [if_pos (by omega), List.getElem?_drop] at this
    simpa using this
   have IX1 := idx_str s (P + 1) ((P : Int) + 1) (by omega) hd0; have HDT := Zh hdt; clear hd0 hdt; have hall : l.take j = l := List.take_of_length_le (by omega); rw [hall]; have d0 := HRD.out.cell 0; have d1 := HRD.out.cell 1; simp only [List.getElem?_toArray, List.getElem?_cons_zero, List.getElem?_cons_succ] at d0 d1
   go_wp2
   have HL2 := Zh hln; clear hln hall
   rcases Bool.eq_false_or_eq_true ((d.toNat : Int) == 0) with h0 | h0
   ·
    go_quiet (fail)
    go_wp2
    go_ret3
    exact ⟨rwide_form (.inl (.inl (head_zero HDT.out h0))), below_drewN HBE.out _⟩
   ·
    rcases Bool.eq_false_or_eq_true (decide ((vl l : Int) < 248)) with h1 | h1
    ·
     go_quiet (fail)
     go_wp2
     go_ret3
     exact ⟨rwide_form (.inl (.inr (by have := of_decide_eq_true h1; omega))), below_drewN HBE.out _⟩
    ·
     rcases Bool.eq_false_or_eq_true (decide (9223372036854775807 < (vl l : Int))) with h2 | h2
     ·
      go_quiet (fail)
      go_wp2
      go_ret3
      exact ⟨rwide_form (.inr (by have := of_decide_eq_true h2; omega)), below_drewN HBE.out _⟩
     ·
      go_quiet (fail)
      go_wp2
      go_ret3
      exact ⟨rwide_ok HDT.out h0 (by have := of_decide_eq_false h1; omega) (by have := of_decide_eq_false h2; omega) HL2.out, below_drewN HBE.out _⟩
def rt : List UInt8 → Nat × Nat × Int
  | [] => (0, 0, 14)
  | c :: r => if c.toNat < 248 then (c.toNat, 1, 0) else if r.length < c.toNat - 247 then (0, 0, 14) else
      if ((r.take (c.toNat - 247)).head? = some 0 ∨ vl (r.take (c.toNat - 247)) < 248) ∨ 9223372036854775807 < vl (r.take (c.toNat - 247)) then (0, 0, 1) else (vl (r.take (c.toNat - 247)), 1 + (c.toNat - 247), 0)
theorem rt_cons (c : UInt8) (r : List UInt8) : rt (c :: r) = if c.toNat < 248 then (c.toNat, 1, 0) else if r.length < c.toNat - 247 then (0, 0, 14) else
      if ((r.take (c.toNat - 247)).head? = some 0 ∨ vl (r.take (c.toNat - 247)) < 248) ∨ 9223372036854775807 < vl (r.take (c.toNat - 247)) then (0, 0, 1) else (vl (r.take (c.toNat - 247)), 1 + (c.toNat - 247), 0) := rfl
def rta (l : List UInt8) : Array Value := #[.int .i64 ((rt l).1 : Int), .int .i64 ((rt l).2.1 : Int), .int .i64 (rt l).2.2]
theorem rdn_any {w : World} {g : Nat} {s : ByteArray} {P : Nat} (h : Rd w g s P 0) (hs : s.size ≤ 1000000) (hP : P ≤ s.size) :
    Calls Tryz.prog 58 #[.pointer (some ⟨g, 0, none⟩)] w fun r w' => r = .returned (.tuple (rta (s.data.toList.drop P))) ∧ Below w.heap.size w w' := by
  have hlen : (s.data.toList.drop P).length = s.size - P := by rw [List.length_drop, Array.length_toList]; rfl
  match hd : s.data.toList.drop P with
  | [] =>
    rw [hd] at hlen
    simp at hlen
    exact rdn_end h hs (by omega)
  | c :: r =>
    rw [hd] at hlen; simp only [List.length_cons] at hlen; have hp : s.data.toList[P]? = some c := by have := congrArg (·[0]?) hd; simpa using this
    by_cases h1 : c.toNat < 248
    · have := rdn_one h hs hp (by omega)
      simpa [rta, rt, h1] using this
    · by_cases h2 : r.length < c.toNat - 247
      · have := rdn_cut h hs hp (by omega) (by omega)
        simpa [rta, rt, h1, h2] using this
      · have hr : s.data.toList.drop (P + 1) = r := by
          have h7 := congrArg (List.drop 1) hd; rw [List.drop_drop] at h7
          simpa using h7
        have := rdn_wide (K := c.toNat - 247) (l := r.take (c.toNat - 247)) h hs hp (by omega) (by omega) (by omega) (by rw [hr]); have e : (r.take (c.toNat - 247)).length = c.toNat - 247 := by rw [List.length_take]; omega
        unfold rwide at this
        unfold rta
        rw [rt_cons, if_neg h1, if_neg h2]
        split at this
        · next h3 => rw [if_pos h3]; exact this
        · next h3 => rw [if_neg h3]; rw [e] at this; simpa using this
theorem head_append {α : Type} (l m : List α) (h : l ≠ []) : (l ++ m).head? = l.head? := by
  cases l with
  | nil => exact absurd rfl h
  | cons a l => rfl
theorem vl_dgs : ∀ n : Nat, vl (dgs n) = n := by
  intro n
  induction n using Nat.strongRecOn with
  | _ n ih =>
    rcases Nat.eq_zero_or_pos n with rfl | hp
    · rw [dgs_zero]; rfl
    · rw [dgs_pos hp, vl_snoc, ih (n / 256) (by omega), UInt8.toNat_ofNat']
      omega
theorem dgs_head : ∀ n : Nat, (dgs n).head? ≠ some 0 := by
  intro n
  induction n using Nat.strongRecOn with
  | _ n ih =>
    rcases Nat.eq_zero_or_pos n with rfl | hp
    · rw [dgs_zero]; simp
    · rw [dgs_pos hp]
      rcases Nat.eq_zero_or_pos (n / 256) with h0 | h0
      · rw [h0, dgs_zero]
        intro h; have h2 := congrArg UInt8.toNat (Option.some.inj h); rw [UInt8.toNat_ofNat'] at h2
        simp at h2
        omega
      · rw [head_append _ _ (by rw [dgs_pos h0]; simp)]
        exact ih _ (by omega)
theorem dgs_vl : ∀ (m : Nat) (t : List UInt8), t.length = m → t.head? ≠ some 0 → dgs (vl t) = t := by
  intro m
  induction m with
  | zero => intro t h _; have := List.length_eq_zero_iff.1 h; subst this; exact dgs_zero
  | succ m ih =>
    intro t h hh
    rcases List.eq_nil_or_concat t with rfl | ⟨i, c, rfl⟩
    · simp at h
    · rw [List.concat_eq_append] at h hh ⊢
      have hc := c.toNat_lt; have hl : i.length = m := by simpa using h
      rw [vl_snoc]
      by_cases hi : i = []
      · subst hi
        have h0 : c.toNat ≠ 0 := by
          intro e
          exact hh (by rw [show c = 0 from UInt8.toNat_inj.1 (by rw [e]; rfl)]; rfl)
        rw [dgs_pos (by simp [vl]; omega)]
        simp [vl, dgs_zero, show c.toNat / 256 = 0 by omega]
      · have hi2 : dgs (vl i) = i := ih i hl (by rw [head_append _ _ hi] at hh; exact hh)
        have hp : 0 < vl i := by
          rcases Nat.eq_zero_or_pos (vl i) with h0 | h0
          · rw [h0, dgs_zero] at hi2; exact absurd hi2.symm hi
          · exact h0
        rw [dgs_pos (by omega), show (vl i * 256 + c.toNat) / 256 = vl i by omega, hi2]
        congr 2
        apply UInt8.toNat_inj.1
        rw [UInt8.toNat_ofNat']
        omega
theorem hdb_nat (n : Nat) (hn : n < 9223372036854775808) : (hdb n).toNat = 247 + sz n := by
  have := sz_le 8 n (by omega)
  unfold hdb
  rw [UInt8.toNat_ofNat']
  omega
theorem rt_enc (n : Nat) (hn : n < 9223372036854775808) (more : List UInt8) : rt (enc n ++ more) = (n, (enc n).length, 0) := by
  unfold enc
  by_cases h : n < 248
  · rw [if_pos h]
    show rt (UInt8.ofNat n :: more) = _
    have e : (UInt8.ofNat n).toNat = n := by rw [UInt8.toNat_ofNat']; omega
    rw [rt_cons, e, if_pos h]
    rfl
  · rw [if_neg h]
    show rt (hdb n :: (dgs n ++ more)) = _
    have e := hdb_nat n hn; have h8 : 1 ≤ sz n := by rw [sz_pos (by omega)]; omega
    have ht : (dgs n ++ more).take (sz n) = dgs n := by
      exact List.take_left' rfl
    rw [rt_cons, e, if_neg (by omega), show 247 + sz n - 247 = sz n by omega, if_neg (by rw [List.length_append]; show ¬ sz n + _ < sz n; omega), ht, vl_dgs, if_neg (fun h2 => h2.elim (fun h2 => h2.elim (dgs_head n) h) (by omega))]; simp only [List.length_cons]
    show (n, 1 + sz n, (0 : Int)) = (n, sz n + 1, 0)
    rw [Nat.add_comm]
theorem rt_ok {l : List UInt8} {n k : Nat} (h : rt l = (n, k, 0)) : enc n = l.take k ∧ 1 ≤ k ∧ k ≤ l.length ∧ n < 9223372036854775808 := by
  match l, h with
  | [], h => exact absurd (show (14 : Int) = 0 from congrArg (·.2.2) h) (by decide)
  | c :: r, h =>
    rw [rt_cons] at h; have hc := c.toNat_lt
    by_cases h1 : c.toNat < 248
    · rw [if_pos h1] at h
      simp only [Prod.mk.injEq] at h; obtain ⟨rfl, rfl, _⟩ := h; refine ⟨?_, by omega, by simp, by omega⟩
      unfold enc
      rw [if_pos h1]
      simp
    · rw [if_neg h1] at h
      by_cases h2 : r.length < c.toNat - 247
      · rw [if_pos h2] at h
        simp at h
      · rw [if_neg h2] at h
        split at h
        · simp at h
        · next h3 =>
          simp only [Prod.mk.injEq] at h; obtain ⟨rfl, rfl, _⟩ := h; have e1 : (r.take (c.toNat - 247)).head? ≠ some 0 := fun e => h3 (.inl (.inl e))
          have e2 : ¬ vl (r.take (c.toNat - 247)) < 248 := fun e => h3 (.inl (.inr e))
          have e3 : ¬ 9223372036854775807 < vl (r.take (c.toNat - 247)) := fun e => h3 (.inr e)
          have hl : (r.take (c.toNat - 247)).length = c.toNat - 247 := by rw [List.length_take]; omega
          have hd := dgs_vl _ _ rfl e1; refine ⟨?_, by omega, by simp only [List.length_cons]; omega, by omega⟩
          unfold enc
          rw [if_neg e2, hd, Nat.add_comm 1, List.take_succ_cons]
          congr 1
          unfold hdb sz
          rw [hd, hl]
          apply UInt8.toNat_inj.1
          rw [UInt8.toNat_ofNat']
          omega
theorem rt_bad {l : List UInt8} (h : (rt l).2.2 ≠ 0) : (rt l).1 = 0 ∧ (rt l).2.1 = 0 := by
  match l, h with
  | [], h => exact ⟨rfl, rfl⟩
  | c :: r, h =>
    rw [rt_cons] at h ⊢
    split
    · next h1 => rw [if_pos h1] at h; exact absurd rfl h
    · next h1 =>
      rw [if_neg h1] at h
      split
      · exact ⟨rfl, rfl⟩
      · next h2 =>
        rw [if_neg h2] at h
        split
        · exact ⟨rfl, rfl⟩
        · next h3 => rw [if_neg h3] at h; exact absurd rfl h
theorem num_ok {w : World} {g : Nat} {s : ByteArray} {P n k : Nat} (h : Rd w g s P 0) (hs : s.size ≤ 1000000) (hP : P ≤ s.size) (hr : rt (s.data.toList.drop P) = (n, k, 0)) :
  Calls Tryz.prog 34 #[.pointer (some ⟨g, 0, none⟩)] w fun r w' => r = .returned (.int .i64 (n : Int)) ∧ Rd w' g s ((P : Int) + (k : Int)) 0 ∧ Below g w w' := by
 have hk := (rt_ok hr).2.2.1; have hlen : (s.data.toList.drop P).length = s.size - P := by rw [List.length_drop, Array.length_toList]; rfl
 have hk2 : (P : Int) + (k : Int) ≤ 1000000 := by omega
 have CN := Zh (rdn_any h hs hP); have HE := Zh (show rta (s.data.toList.drop P) = #[.int .i64 (n : Int), .int .i64 (k : Int), .int .i64 0] by unfold rta; rw [hr]); have HR := Zh h; clear h hr hk hlen
 go_enter Tryz.func34, Tryz.ntmps34
 go_wp2_with (
  go_at_call 58
  refine CN.out.mono ?_; rintro _ w2 ⟨rfl, h2⟩; rw [HE.out]; have HB : Blk w2 g 81 #[.string s, .int .i64 (P : Int), .int .i64 0] := HR.out.below h2 HR.out.lt; have c1 := HB.cell 1; have f1 := HB.frozen 1; have HB2 := Zh (HB.set_ 1 (.int .i64 ((P : Int) + (k : Int)))); have H2 := Zh ((h2.mono (Nat.le_of_lt HR.out.lt)).setCell (p := ⟨g, 1, none⟩) (Nat.le_refl _) (.int .i64 ((P : Int) + (k : Int)))); simp only [List.getElem?_toArray, List.getElem?_cons_zero, List.getElem?_cons_succ] at c1
  clear h2 HB)
 go_ret
 exact ⟨rfl, HB2.out, H2.out⟩
theorem fits_any {w : World} {g : Nat} {s : ByteArray} {P k : Nat} {n most : Int} (h : Rd w g s P 0) (hs : s.size ≤ 1000000) (hP : P + k ≤ s.size) (hn : 0 ≤ n) :
  Calls Tryz.prog 82 #[.pointer (some ⟨g, 0, none⟩), .int .i64 n, .int .i64 (k : Int), .int .i64 most] w fun r w' => r = .returned (.int .i64 (if (s.size : Int) - P - k < n then 14 else if most < n then 2 else 0)) ∧ Below w.heap.size w w' := by
 have CL := Zh (left_any h (by omega) (by omega) hs); have HR := Zh h; clear h
 by_cases h1 : (s.size : Int) - P - k < n
 ·
  rw [if_pos h1]
  go_enter Tryz.func82, Tryz.ntmps82
  go_wp2_with (go_at_call 60; refine CL.out.mono ?_; rintro _ w2 ⟨rfl, h2⟩; have H2 := Zh h2; clear h2)
  go_ret
  exact ⟨rfl, H2.out⟩
 ·
  rw [if_neg h1]
  by_cases h2 : most < n
  ·
   rw [if_pos h2]
   go_enter Tryz.func82, Tryz.ntmps82
   go_wp2_with (go_at_call 60; refine CL.out.mono ?_; rintro _ w2 ⟨rfl, h2⟩; have H2 := Zh h2; clear h2)
   go_ret
   exact ⟨rfl, H2.out⟩
  ·
   rw [if_neg h2]
   go_enter Tryz.func82, Tryz.ntmps82
   go_wp2_with (go_at_call 60; refine CL.out.mono ?_; rintro _ w2 ⟨rfl, h2⟩; have H2 := Zh h2; clear h2)
   go_ret
   exact ⟨rfl, H2.out⟩
theorem sclone_any (s : ByteArray) (w : World) (hs : s.size ≤ 1000000) : Calls Tryz.prog 83 #[.string s] w fun e w' => e = .returned (.string s) ∧ Below w.heap.size w w' := by
 have CC := Zh (Tryz.stringslite_Clone s w (by omega))
 go_enter Tryz.func83, Tryz.ntmps83
 go_wp2_with (go_at_call 94; refine CC.out.mono ?_; rintro _ w2 ⟨rfl, h2⟩; have H2 := Zh h2; clear h2)
 go_ret
 exact ⟨rfl, H2.out⟩
theorem by_below {w w' : World} {row : Option Nat} (h : Below w.heap.size w w') : w.grownBy w' row := ⟨h.os, h.tape, h.output, h.size, fun j hj _ => h.block j hj⟩
theorem by_then {a b c : World} {g : Nat} (h : a.grownBy b (some g)) (hb : Below b.heap.size b c) : a.grownBy c (some g) :=
  ⟨hb.os.trans h.os, hb.tape.trans h.tape, hb.output.trans h.output, Nat.le_trans h.size hb.size, fun j hj hne => (hb.block j (Nat.lt_of_lt_of_le hj h.size)).trans (h.block j hj hne)⟩
theorem wnum_ok {w : World} {g : Nat} {s : ByteArray} {P n k : Nat} (h : Rd w g s P 0) (hs : s.size ≤ 1000000) (hP : P ≤ s.size) (hr : rt (s.data.toList.drop P) = (n, k, 0)) :
    Calls Tryz.prog 34 #[.pointer (some ⟨g, 0, none⟩)] w fun r w' => r = .returned (.int .i64 (n : Int)) ∧ Rd w' g s ((P : Int) + (k : Int)) 0 ∧ w.grownBy w' (some g) := by
  have hk := (rt_ok hr).2.2.1; have hlen : (s.data.toList.drop P).length = s.size - P := by rw [List.length_drop, Array.length_toList]; rfl
  have hk2 : (P : Int) + (k : Int) ≤ 1000000 := by omega
  have CN := Zh (rdn_any h hs hP); have HE := Zh (show rta (s.data.toList.drop P) = #[.int .i64 (n : Int), .int .i64 (k : Int), .int .i64 0] by unfold rta; rw [hr]); have HR := Zh h; clear h hr hk hlen
  go_enter Tryz.func34, Tryz.ntmps34
  go_wp2_with (
    go_at_call 58
    refine CN.out.mono ?_; rintro _ w2 ⟨rfl, h2⟩; rw [HE.out]; have HB : Blk w2 g 81 #[.string s, .int .i64 (P : Int), .int .i64 0] := HR.out.below h2 HR.out.lt; have c1 := HB.cell 1; have f1 := HB.frozen 1; have HB2 := Zh (HB.set_ 1 (.int .i64 ((P : Int) + (k : Int)))); have H2 := Zh (only_setCell (by_below h2) (p := ⟨g, 1, none⟩) (.inl rfl) (.int .i64 ((P : Int) + (k : Int)))); simp only [List.getElem?_toArray, List.getElem?_cons_zero, List.getElem?_cons_succ] at c1
    clear h2 HB)
  go_ret
  exact ⟨rfl, HB2.out, H2.out⟩
theorem wnum_bad {w : World} {g : Nat} {s : ByteArray} {P : Nat} {e : Int} (h : Rd w g s P 0) (hs : s.size ≤ 1000000) (hP : P ≤ s.size) (hr : (rt (s.data.toList.drop P)).2.2 = e) (he : e ≠ 0) :
    Calls Tryz.prog 34 #[.pointer (some ⟨g, 0, none⟩)] w fun r w' => r = .returned (.int .i64 0) ∧ Rd w' g s P e ∧ w.grownBy w' (some g) := by
  have hb := rt_bad (l := s.data.toList.drop P) (by rw [hr]; exact he); have CN := Zh (rdn_any h hs hP); have HE := Zh (show rta (s.data.toList.drop P) = #[.int .i64 0, .int .i64 0, .int .i64 e] by unfold rta; rw [hr, hb.1, hb.2]; rfl); have hbe : (e != 0) = true := by simpa using he
  have HR := Zh h; clear h hr hb
  go_enter Tryz.func34, Tryz.ntmps34
  go_wp2_with (
    go_at_call 58
    refine CN.out.mono ?_; rintro _ w2 ⟨rfl, h2⟩; rw [HE.out]; have HB : Blk w2 g 81 #[.string s, .int .i64 (P : Int), .int .i64 0] := HR.out.below h2 HR.out.lt; have c2 := HB.cell 2; have f2 := HB.frozen 2; have HB2 := Zh (HB.set_ 2 (.int .i64 e)); have H2 := Zh (only_setCell (by_below h2) (p := ⟨g, 2, none⟩) (.inl rfl) (.int .i64 e)); simp only [List.getElem?_toArray, List.getElem?_cons_zero, List.getElem?_cons_succ] at c2
    clear h2 HB)
  go_ret
  exact ⟨rfl, HB2.out, H2.out⟩
theorem wtext_ok {w : World} {g : Nat} {s : ByteArray} {P n k : Nat} {most : Int} (h : Rd w g s P 0) (hs : s.size ≤ 1000000) (hP : P ≤ s.size) (hr : rt (s.data.toList.drop P) = (n, k, 0)) (hn : P + k + n ≤ s.size) (hm : (n : Int) ≤ most) :
    Calls Tryz.prog 73 #[.pointer (some ⟨g, 0, none⟩), .int .i64 most] w fun r w' => r = .returned (.string ⟨((s.data.toList.drop (P + k)).take n).toArray⟩) ∧ Rd w' g s ((P : Int) + (k : Int) + (n : Int)) 0 ∧ w.grownBy w' (some g) := by
  have CN := Zh (rdn_any h hs hP); have HE := Zh (show rta (s.data.toList.drop P) = #[.int .i64 (n : Int), .int .i64 (k : Int), .int .i64 0] by unfold rta; rw [hr]); have HR := Zh h; have ex : s.extract (P + k) (P + k + n) = ⟨((s.data.toList.drop (P + k)).take n).toArray⟩ := by
    apply ByteArray.ext
    rw [ByteArray.data_extract]
    apply Array.toList_inj.1
    rw [Array.toList_extract, List.extract_eq_take_drop]
    simp
  have HEX := Zh ex; have hfit : (if (s.size : Int) - P - k < n then 14 else if most < n then 2 else 0 : Int) = 0 := by rw [if_neg (by omega), if_neg (by omega)]
  have HFI := Zh hfit; have hsz : (s.extract (P + k) (P + k + n)).size ≤ 1000000 := by rw [ByteArray.size_extract]; omega
  clear h hr ex hfit
  go_enter Tryz.func73, Tryz.ntmps73
  go_wp2_with (first
    | (go_at_call 58
       refine CN.out.mono ?_; rintro _ w2 ⟨rfl, h2⟩; rw [HE.out]; have HB : Rd w2 g s P 0 := HR.out.below h2 HR.out.lt; have HR2 := Zh HB; have H2 := Zh (by_below (row := some g) h2)
       clear h2 HB)
    | (go_at_call 82
       refine (fits_any HR2.out hs (by omega) (by omega)).mono ?_; rintro _ w3 ⟨rfl, h2⟩; rw [HFI.out]; have HB : Blk w3 g 81 #[.string s, .int .i64 (P : Int), .int .i64 0] := HR2.out.below h2 HR2.out.lt; have c0 := HB.cell 0; have c1 := HB.cell 1; have f1 := HB.frozen 1; have HR3 := Zh (HB.set_ 1 (.int .i64 ((P : Int) + (k : Int) + (n : Int)))); have H3 := Zh (only_setCell (by_then H2.out h2) (p := ⟨g, 1, none⟩) (.inl rfl) (.int .i64 ((P : Int) + (k : Int) + (n : Int)))); simp only [List.getElem?_toArray, List.getElem?_cons_zero, List.getElem?_cons_succ] at c0 c1
       clear h2 HB)
    | fail)
  generalize hW : World.setCell _ _ _ = W at *
  have d0 := Blk.cell HR3.out 0; have d1 := Blk.cell HR3.out 1
  simp at d0 d1
  go_region_with (
    go_at_call 83
    refine (sclone_any _ _ hsz).mono ?_; rintro _ w4 ⟨rfl, h2⟩; have HR4 : Hid (Rd w4 g s ((P : Int) + (k : Int) + (n : Int)) 0) := Zh (Blk.below (Blk.drew HR3.out) h2 HR3.out.lt); have H4 := Zh (by_then (only_drewN H3.out 1) h2); clear h2
    go_simp)
  all_goals (
    go_wp2
    go_ret
    exact ⟨by rw [← HEX.out]; rfl, HR4.out, H4.out⟩)
theorem wtext_bad {w : World} {g : Nat} {s : ByteArray} {P : Nat} {most e : Int} (h : Rd w g s P 0) (hs : s.size ≤ 1000000) (hP : P ≤ s.size) (hr : (rt (s.data.toList.drop P)).2.2 = e) (he : e ≠ 0) :
    Calls Tryz.prog 73 #[.pointer (some ⟨g, 0, none⟩), .int .i64 most] w fun r w' => r = .returned (.string ⟨#[]⟩) ∧ Rd w' g s P e ∧ w.grownBy w' (some g) := by
  have hb := rt_bad (l := s.data.toList.drop P) (by rw [hr]; exact he); have CN := Zh (rdn_any h hs hP); have HE := Zh (show rta (s.data.toList.drop P) = #[.int .i64 0, .int .i64 0, .int .i64 e] by unfold rta; rw [hr, hb.1, hb.2]; rfl); have hbe : (e != 0) = true := by simpa using he
  have hbe2 : (e == 0) = false := by simpa using he
  have HR := Zh h; clear h hr hb
  go_enter Tryz.func73, Tryz.ntmps73
  go_wp2_with (
    go_at_call 58
    refine CN.out.mono ?_; rintro _ w2 ⟨rfl, h2⟩; rw [HE.out]; have HB : Blk w2 g 81 #[.string s, .int .i64 (P : Int), .int .i64 0] := HR.out.below h2 HR.out.lt; have c2 := HB.cell 2; have f2 := HB.frozen 2; have HB2 := Zh (HB.set_ 2 (.int .i64 e)); have H2 := Zh (only_setCell (by_below h2) (p := ⟨g, 2, none⟩) (.inl rfl) (.int .i64 e)); simp only [List.getElem?_toArray, List.getElem?_cons_zero, List.getElem?_cons_succ] at c2
    clear h2 HB)
  go_ret
  exact ⟨rfl, HB2.out, H2.out⟩
theorem wtext_over {w : World} {g : Nat} {s : ByteArray} {P n k : Nat} {most e : Int} (h : Rd w g s P 0) (hs : s.size ≤ 1000000) (hP : P ≤ s.size) (hr : rt (s.data.toList.drop P) = (n, k, 0)) (hk : P + k ≤ s.size)
    (hf : (if (s.size : Int) - P - k < n then 14 else if most < n then 2 else 0 : Int) = e) (he : e ≠ 0) :
    Calls Tryz.prog 73 #[.pointer (some ⟨g, 0, none⟩), .int .i64 most] w fun r w' => r = .returned (.string ⟨#[]⟩) ∧ Rd w' g s P e ∧ w.grownBy w' (some g) := by
  have CN := Zh (rdn_any h hs hP); have HE := Zh (show rta (s.data.toList.drop P) = #[.int .i64 (n : Int), .int .i64 (k : Int), .int .i64 0] by unfold rta; rw [hr]); have hbe : (e != 0) = true := by simpa using he
  have HR := Zh h; have HFI := Zh hf; clear h hr hf
  go_enter Tryz.func73, Tryz.ntmps73
  go_wp2_with (first
    | (go_at_call 58
       refine CN.out.mono ?_; rintro _ w2 ⟨rfl, h2⟩; rw [HE.out]; have HB : Rd w2 g s P 0 := HR.out.below h2 HR.out.lt; have HR2 := Zh HB; have H2 := Zh (by_below (row := some g) h2)
       clear h2 HB)
    | (go_at_call 82
       refine (fits_any HR2.out hs (by omega) (by omega)).mono ?_; rintro _ w3 ⟨rfl, h2⟩; rw [HFI.out]; have HB : Blk w3 g 81 #[.string s, .int .i64 (P : Int), .int .i64 0] := HR2.out.below h2 HR2.out.lt; have c2 := HB.cell 2; have f2 := HB.frozen 2; have HB2 := Zh (HB.set_ 2 (.int .i64 e)); have H3 := Zh (only_setCell (by_then H2.out h2) (p := ⟨g, 2, none⟩) (.inl rfl) (.int .i64 e)); simp only [List.getElem?_toArray, List.getElem?_cons_zero, List.getElem?_cons_succ] at c2
       clear h2 HB))
  go_ret
  exact ⟨rfl, HB2.out, H3.out⟩
theorem wnum_err {w : World} {g : Nat} {s : ByteArray} {P : Nat} {e : Int} (h : Rd w g s P e) (he : e ≠ 0) :
    Calls Tryz.prog 34 #[.pointer (some ⟨g, 0, none⟩)] w fun r w' => r = .returned (.int .i64 0) ∧ Rd w' g s P e ∧ w.grownBy w' (some g) := by
  have CN := Zh (rdn_err h he); have hbe : (e != 0) = true := by simpa using he
  have hbe2 : (e == 0) = false := by simpa using he
  have HR := Zh h; clear h
  go_enter Tryz.func34, Tryz.ntmps34
  go_wp2_with (
    go_at_call 58
    refine CN.out.mono ?_; rintro _ w2 ⟨rfl, h2⟩; have HB : Blk w2 g 81 #[.string s, .int .i64 (P : Int), .int .i64 e] := HR.out.below h2 HR.out.lt; have c2 := HB.cell 2; have f2 := HB.frozen 2; have HB2 := Zh (HB.set_ 2 (.int .i64 e)); have H2 := Zh (only_setCell (by_below h2) (p := ⟨g, 2, none⟩) (.inl rfl) (.int .i64 e)); simp only [List.getElem?_toArray, List.getElem?_cons_zero, List.getElem?_cons_succ] at c2
    clear h2 HB)
  go_ret
  exact ⟨rfl, HB2.out, H2.out⟩
theorem wtext_err {w : World} {g : Nat} {s : ByteArray} {P : Nat} {e : Int} (h : Rd w g s P e) (he : e ≠ 0) (most : Int) :
    Calls Tryz.prog 73 #[.pointer (some ⟨g, 0, none⟩), .int .i64 most] w fun r w' => r = .returned (.string ⟨#[]⟩) ∧ Rd w' g s P e ∧ w.grownBy w' (some g) := by
  have CN := Zh (rdn_err h he); have hbe : (e != 0) = true := by simpa using he
  have hbe2 : (e == 0) = false := by simpa using he
  have HR := Zh h; clear h
  go_enter Tryz.func73, Tryz.ntmps73
  go_wp2_with (
    go_at_call 58
    refine CN.out.mono ?_; rintro _ w2 ⟨rfl, h2⟩; have HB : Blk w2 g 81 #[.string s, .int .i64 (P : Int), .int .i64 e] := HR.out.below h2 HR.out.lt; have c2 := HB.cell 2; have f2 := HB.frozen 2; have HB2 := Zh (HB.set_ 2 (.int .i64 e)); have H2 := Zh (only_setCell (by_below h2) (p := ⟨g, 2, none⟩) (.inl rfl) (.int .i64 e)); simp only [List.getElem?_toArray, List.getElem?_cons_zero, List.getElem?_cons_succ] at c2
    clear h2 HB)
  go_ret
  exact ⟨rfl, HB2.out, H2.out⟩
structure Bxs (w0 wr : World) (l : List (Nat × TypeId × Array Value)) : Prop where
 all : ∀ g t cs, (g, t, cs) ∈ l → Blk wr g t cs
 bel : Below w0.heap.size w0 wr
section
variable {w0 wr w' : World} {l : List (Nat × TypeId × Array Value)}
theorem Bxs.start (w : World) : Bxs w w [] := ⟨fun _ _ _ h => by simp at h, Below.refl _ _⟩
theorem Bxs.get (h : Bxs w0 wr l) (i : Nat) {g : Nat} {t : TypeId} {cs : Array Value} (e : l[i]? = some (g, t, cs)) : Blk wr g t cs := h.all g t cs (List.mem_of_getElem? e)
theorem Bxs.step (h : Bxs w0 wr l) (hb : Below wr.heap.size wr w') : Bxs w0 w' l := ⟨fun g t cs hm => (h.all g t cs hm).below hb (h.all g t cs hm).lt, h.bel.trans (hb.mono h.bel.size)⟩
theorem Bxs.new (h : Bxs w0 wr l) (t : TypeId) (cs : Array Value) : Bxs w0 (wr.alloc (.cells cs t)) (l ++ [(wr.heap.size, t, cs)]) :=
 ⟨fun g u ds hm => by
  rcases List.mem_append.1 hm with hm | hm
  ·
   exact (h.all g u ds hm).alloc _
  ·
   simp only [List.mem_singleton, Prod.mk.injEq] at hm; obtain ⟨rfl, rfl, rfl⟩ := hm
   exact Blk.new _ _ _, h.bel.alloc h.bel.size _⟩
theorem Bxs.alloc (h : Bxs w0 wr l) (o : Obj) : Bxs w0 (wr.alloc o) l := ⟨fun g t cs hm => (h.all g t cs hm).alloc o, h.bel.alloc h.bel.size o⟩
theorem Bxs.drewN (h : Bxs w0 wr l) (n : Nat) : Bxs w0 (wr.drewN n) l := ⟨fun g t cs hm => (h.all g t cs hm).drewN n, below_drewN h.bel n⟩
end
end Go.Proofs.YtphijnkiiokieaaGreatDoor
