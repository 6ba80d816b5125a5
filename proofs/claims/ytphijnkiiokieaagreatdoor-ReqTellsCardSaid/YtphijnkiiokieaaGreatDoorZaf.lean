/- Texts of one proof, joined. -/
import Derived.Test.YtphijnkiiokieaaGreatDoorZae
import Derived.Deep.Light
import Derived.Handy
set_option linter.unusedVariables false
set_option linter.unusedSimpArgs false
set_option maxRecDepth 100000
set_option maxHeartbeats 80000000
namespace Go.Proofs.YtphijnkiiokieaaGreatDoor
open Go.RowKit
open Go.Lib hiding intOf
theorem cs11 {w : World} {b : Nat} {t : TypeId} {cs : Array Value} (h : Blk w b t cs) : w.cell? ⟨b, 0, none⟩ = cs[0]? ∧ w.cell? ⟨b, 1, none⟩ = cs[1]? ∧ w.cell? ⟨b, 2, none⟩ = cs[2]? ∧ w.cell? ⟨b, 3, none⟩ = cs[3]? ∧ w.cell? ⟨b, 4, none⟩ = cs[4]? ∧ w.cell? ⟨b, 5, none⟩ = cs[5]? ∧ w.cell? ⟨b, 6, none⟩ = cs[6]? ∧ w.cell? ⟨b, 7, none⟩ = cs[7]? ∧ w.cell? ⟨b, 8, none⟩ = cs[8]? ∧ w.cell? ⟨b, 9, none⟩ = cs[9]? ∧ w.cell? ⟨b, 10, none⟩ = cs[10]? := ⟨h.cell 0, h.cell 1, h.cell 2, h.cell 3, h.cell 4, h.cell 5, h.cell 6, h.cell 7, h.cell 8, h.cell 9, h.cell 10⟩
theorem cf11 {w : World} {b : Nat} {t : TypeId} {cs : Array Value} (h : Blk w b t cs) : w.cell? ⟨b, 0, none⟩ = cs[0]? ∧ w.frozen? ⟨b, 0, none⟩ = false ∧ w.cell? ⟨b, 1, none⟩ = cs[1]? ∧ w.frozen? ⟨b, 1, none⟩ = false ∧ w.cell? ⟨b, 2, none⟩ = cs[2]? ∧ w.frozen? ⟨b, 2, none⟩ = false ∧ w.cell? ⟨b, 3, none⟩ = cs[3]? ∧ w.frozen? ⟨b, 3, none⟩ = false ∧ w.cell? ⟨b, 4, none⟩ = cs[4]? ∧ w.frozen? ⟨b, 4, none⟩ = false ∧ w.cell? ⟨b, 5, none⟩ = cs[5]? ∧ w.frozen? ⟨b, 5, none⟩ = false ∧ w.cell? ⟨b, 6, none⟩ = cs[6]? ∧ w.frozen? ⟨b, 6, none⟩ = false ∧ w.cell? ⟨b, 7, none⟩ = cs[7]? ∧ w.frozen? ⟨b, 7, none⟩ = false ∧ w.cell? ⟨b, 8, none⟩ = cs[8]? ∧ w.frozen? ⟨b, 8, none⟩ = false ∧ w.cell? ⟨b, 9, none⟩ = cs[9]? ∧ w.frozen? ⟨b, 9, none⟩ = false ∧ w.cell? ⟨b, 10, none⟩ = cs[10]? ∧ w.frozen? ⟨b, 10, none⟩ = false := ⟨h.cell 0, h.frozen 0, h.cell 1, h.frozen 1, h.cell 2, h.frozen 2, h.cell 3, h.frozen 3, h.cell 4, h.frozen 4, h.cell 5, h.frozen 5, h.cell 6, h.frozen 6, h.cell 7, h.frozen 7, h.cell 8, h.frozen 8, h.cell 9, h.frozen 9, h.cell 10, h.frozen 10⟩
structure Ops (w : World) (A : Option Addr) (len cap b off : Nat) (xs : List Opn) : Prop where
 hlen : xs.length = len
 le : len ≤ cap
 addr : 0 < len → A = some ⟨b, off, none⟩ ∧ b < w.heap.size
 cell : ∀ (j : Nat) (t : Opn), xs[j]? = some t → w.cell? ⟨b, off + j * 5, none⟩ = some (.bool t.d) ∧ w.cell? ⟨b, off + j * 5 + 1, none⟩ = some (.string t.u) ∧ w.cell? ⟨b, off + j * 5 + 2, none⟩ = some (.string t.c) ∧ w.cell? ⟨b, off + j * 5 + 3, none⟩ = some (.int .i64 t.k) ∧ w.cell? ⟨b, off + j * 5 + 4, none⟩ = some (.int .i64 t.v)
theorem Ops.blk {w w' : World} {A : Option Addr} {len cap b off : Nat} {xs : List Opn} (h : Ops w A len cap b off xs) (hs : w.heap.size ≤ w'.heap.size) (hb : 0 < len → w'.heap[b]? = w.heap[b]?) : Ops w' A len cap b off xs :=
 ⟨h.hlen, h.le, fun hl => ⟨(h.addr hl).1, Nat.lt_of_lt_of_le (h.addr hl).2 hs⟩, fun j t hj => by
  have hlt : j < xs.length := (List.getElem?_eq_some_iff.1 hj).1; have hbb := hb (by have := h.hlen; omega); obtain ⟨h1, h2, h3, h4, h5⟩ := h.cell j t hj
  exact ⟨(World.cell?_of_block (a := ⟨b, _, none⟩) hbb).trans h1, (World.cell?_of_block (a := ⟨b, _, none⟩) hbb).trans h2, (World.cell?_of_block (a := ⟨b, _, none⟩) hbb).trans h3, (World.cell?_of_block (a := ⟨b, _, none⟩) hbb).trans h4, (World.cell?_of_block (a := ⟨b, _, none⟩) hbb).trans h5⟩⟩
theorem Ops.below {w w' : World} {A : Option Addr} {len cap b off B : Nat} {xs : List Opn} (h : Ops w A len cap b off xs) (hb : Below B w w') (hB : 0 < len → b < B) : Ops w' A len cap b off xs :=
 h.blk hb.size (fun hl => hb.block b (hB hl))
theorem Ops.on {w w' : World} {A : Option Addr} {len cap b off : Nat} {xs : List Opn} (h : Ops w A len cap b off xs) (hb : Below w.heap.size w w') : Ops w' A len cap b off xs :=
 h.below hb (fun hl => (h.addr hl).2)
theorem ops_none (w : World) : Ops w none 0 0 0 0 [] := ⟨rfl, Nat.le_refl _, fun h => absurd h (by simp), fun j t hj => by simp at hj⟩
def opC (t : Opn) : List Value := [.bool t.d, .string t.u, .string t.c, .int .i64 t.k, .int .i64 t.v]
def opsC (xs : List Opn) : List Value := (xs.map opC).flatten
theorem opsC_snoc (xs : List Opn) (t : Opn) : opsC (xs ++ [t]) = opsC xs ++ opC t := by unfold opsC; simp
theorem opsC_get : ∀ (xs : List Opn) (j : Nat) (t : Opn), xs[j]? = some t → ∀ i, i < 5 → (opsC xs)[j * 5 + i]? = (opC t)[i]?
 | [], j, t, h => by simp at h
 | y :: xs, 0, t, h => fun i hi => by
  simp at h; subst h
  have hl : (opC y).length = 5 := rfl
  show ((opC y) ++ opsC xs)[0 * 5 + i]? = _
  rw [Nat.zero_mul, Nat.zero_add, List.getElem?_append_left (by omega)]
 | y :: xs, j + 1, t, h => fun i hi => by
  have hl : (opC y).length = 5 := rfl
  show ((opC y) ++ opsC xs)[(j + 1) * 5 + i]? = _
  rw [List.getElem?_append_right (by omega), hl, show (j + 1) * 5 + i - 5 = j * 5 + i by omega]
  exact opsC_get xs j t (by simpa using h) i hi
theorem own_ops {w : World} {base : Nat} {v : Value} {xs : List Opn} (h : w.ownsRow base 43 5 v xs.length (opsC xs)) : ∃ A cap b, v = .slice A xs.length cap ∧ Ops w A xs.length cap b 0 xs ∧ (0 < xs.length → base ≤ b) := by
 have h0 := h; obtain ⟨h1, ⟨rfl, h2⟩ | ⟨g, cap, cur, rfl, hg, hh, hc, hm, hcs, ht⟩⟩ := h
 ·
  have : xs = [] := List.length_eq_zero_iff.1 h2; subst this
  exact ⟨none, 0, 0, rfl, ops_none w, fun h => absurd h (by simp)⟩
 ·
  refine ⟨some ⟨g, 0, none⟩, cap, g, rfl, ⟨rfl, hc, fun _ => ⟨rfl, Blk.lt hh⟩, fun j t hj => ?_⟩, fun _ => (h0.lt g rfl).1⟩; have hjl : j < xs.length := (List.getElem?_eq_some_iff.1 hj).1; have key : ∀ i, i < 5 → w.cell? ⟨g, 0 + j * 5 + i, none⟩ = (opC t)[i]? := fun i hi => by
   rw [Nat.zero_add, cell_of_row w g _ cur _ (0, 0) hh, ← opsC_get xs j t hj i hi, ← ht, List.getElem?_take, if_pos (by omega), Array.getElem?_toList]
  exact ⟨key 0 (by omega), key 1 (by omega), key 2 (by omega), key 3 (by omega), key 4 (by omega)⟩
abbrev shCd : Sh := Sh.agg 2 [(0, 1, Sh.int .i64), (1, 1, Sh.int .i64)]
abbrev shOp : Sh := Sh.agg 5 [(0, 1, Sh.bool), (1, 1, Sh.str), (2, 1, Sh.str), (3, 2, shCd)]
structure WfO (o : Opn) : Prop where
 u : o.u.size ≤ maxLen
 c : o.c.size ≤ maxLen
 k0 : -9223372036854775808 ≤ o.k
 k : o.k < 9223372036854775808
 v0 : -9223372036854775808 ≤ o.v
 v : o.v < 9223372036854775808
theorem wf_range {v : Int} (h : (Lit.int .i64 v).wf = true) : -9223372036854775808 ≤ v ∧ v < 9223372036854775808 := by
 simp [Lit.wf, IntKind.min, IntKind.max, IntKind.signed, IntKind.bits] at h
 omega
theorem op_open {w : World} {cs : List Value} (h : Sh.ok w shOp cs) : ∃ t : Opn, cs = opC t ∧ WfO t := by
 simp only [Sh.ok, Sh.okAll] at h; obtain ⟨hl, ⟨d, e0⟩, ⟨u, e1, hu⟩, ⟨c, e2, hc⟩, ⟨_, ⟨k, e3, hk⟩, ⟨v, e4, hv⟩, _⟩, _⟩ := h
 match cs, hl with
 | [c0, c1, c2, c3, c4], _ =>
  simp at e0 e1 e2 e3 e4
  subst e0 e1 e2 e3 e4; have hk' := wf_range hk; have hv' := wf_range hv
  exact ⟨⟨d, u, c, k, v⟩, rfl, ⟨hu, hc, hk'.1, hk'.2, hv'.1, hv'.2⟩⟩
theorem ops_open {w : World} {A : Option Addr} {len cap : Nat} (S : Sh.ok w (Sh.slice 5 shOp) [.slice A len cap]) : ∃ b off xs, Ops w A len cap b off xs ∧ (∀ t ∈ xs, WfO t) ∧ len ≤ maxLen := by
 obtain ⟨b, off, hle, hmax, ha, hc⟩ := slice_at S (by omega); have H : ∀ i, i < len → ∃ t : Opn, WfO t ∧ ∀ j, j < 5 → w.cell? ⟨b, off + i * 5 + j, none⟩ = (opC t)[j]? := by
  intro i hi; obtain ⟨cs, hl, hok, hcell⟩ := hc i hi; obtain ⟨t, rfl, h1⟩ := op_open hok
  exact ⟨t, h1, hcell⟩
 refine ⟨b, off, List.ofFn (fun i : Fin len => Classical.choose (H i.1 i.2)), ⟨by simp, hle, ha, fun j t hj => ?_⟩, fun t ht => ?_, by omega⟩
 ·
  have hjl : j < len := by have := (List.getElem?_eq_some_iff.1 hj).1; simpa using this
  rw [List.getElem?_eq_getElem (by simpa using hjl)] at hj; simp only [List.getElem_ofFn, Option.some.injEq] at hj; have h2 := (Classical.choose_spec (H j hjl)).2; rw [hj] at h2
  exact ⟨h2 0 (by omega), h2 1 (by omega), h2 2 (by omega), h2 3 (by omega), h2 4 (by omega)⟩
 ·
  obtain ⟨i, rfl⟩ := (List.mem_ofFn).1 ht
  exact (Classical.choose_spec (H i.1 i.2)).1
theorem allO_snoc (p : Opn → Bool) (xs : List Opn) (q : Nat) (t : Opn) (h : xs[q]? = some t) : (xs.take (q + 1)).all p = ((xs.take q).all p && p t) := by
 rw [List.take_add_one, h]; simp
theorem allO_miss (p : Opn → Bool) (xs : List Opn) (q : Nat) (t : Opn) (h : xs[q]? = some t) (hp : p t = false) : xs.all p = false := by
 rw [List.all_eq_false]
 exact ⟨t, List.mem_of_getElem? h, by rw [hp]; decide⟩
theorem allO_full (p : Opn → Bool) (xs : List Opn) (q : Nat) (h : xs.length ≤ q) (hq : (xs.take q).all p = true) : xs.all p = true := by
 rw [List.take_of_length_le h] at hq; exact hq
end Go.Proofs.YtphijnkiiokieaaGreatDoor
/- The names: Name of ident and of the document. -/
namespace Go.Proofs.YtphijnkiiokieaaGreatDoor.Id
open Go.RowKit
set_option linter.unusedVariables false
def lowB (c : UInt8) : Bool := decide (97 ≤ (c.toNat : Int)) && decide ((c.toNat : Int) ≤ 122)
def upB (c : UInt8) : Bool := decide (65 ≤ (c.toNat : Int)) && decide ((c.toNat : Int) ≤ 90)
def digB (c : UInt8) : Bool := decide (48 ≤ (c.toNat : Int)) && decide ((c.toNat : Int) ≤ 57)
theorem small_any (c : UInt8) (w : World) : Calls Tryz.prog 74 #[.int .u8 (c.toNat : Int)] w fun e w' => e = .returned (.bool (lowB c)) ∧ w = w' := by
  have H : Hid (lowB c = (decide (97 ≤ (c.toNat : Int)) && decide ((c.toNat : Int) ≤ 122))) := rfl
  go_enter Tryz.func74, Tryz.ntmps74
  go_wp2
  all_goals go_ret
  all_goals refine ⟨ret_bool ?_, rfl⟩
  all_goals go_light
  all_goals rw [H.out]
  all_goals simp
  all_goals omega
theorem digit_any (c : UInt8) (w : World) : Calls Tryz.prog 75 #[.int .u8 (c.toNat : Int)] w fun e w' => e = .returned (.bool (digB c)) ∧ w = w' := by
  have H : Hid (digB c = (decide (48 ≤ (c.toNat : Int)) && decide ((c.toNat : Int) ≤ 57))) := rfl
  go_enter Tryz.func75, Tryz.ntmps75
  go_wp2
  all_goals go_ret
  all_goals refine ⟨ret_bool ?_, rfl⟩
  all_goals go_light
  all_goals rw [H.out]
  all_goals simp
  all_goals omega
theorem rlow_any (c : UInt8) (w : World) : Calls Tryz.prog 67 #[.int .u8 (c.toNat : Int)] w fun e w' => e = .returned (.bool (lowB c)) ∧ w = w' := by
  have H : Hid (lowB c = (decide (97 ≤ (c.toNat : Int)) && decide ((c.toNat : Int) ≤ 122))) := rfl
  go_enter Tryz.func67, Tryz.ntmps67
  go_wp2
  all_goals go_ret
  all_goals refine ⟨ret_bool ?_, rfl⟩
  all_goals go_light
  all_goals rw [H.out]
  all_goals simp
  all_goals omega
theorem rdigit_any (c : UInt8) (w : World) : Calls Tryz.prog 68 #[.int .u8 (c.toNat : Int)] w fun e w' => e = .returned (.bool (digB c)) ∧ w = w' := by
  have H : Hid (digB c = (decide (48 ≤ (c.toNat : Int)) && decide ((c.toNat : Int) ≤ 57))) := rfl
  go_enter Tryz.func68, Tryz.ntmps68
  go_wp2
  all_goals go_ret
  all_goals refine ⟨ret_bool ?_, rfl⟩
  all_goals go_light
  all_goals rw [H.out]
  all_goals simp
  all_goals omega
theorem great_any (c : UInt8) (w : World) : Calls Tryz.prog 76 #[.int .u8 (c.toNat : Int)] w fun e w' => e = .returned (.bool (upB c)) ∧ w = w' := by
  have H : Hid (upB c = (decide (65 ≤ (c.toNat : Int)) && decide ((c.toNat : Int) ≤ 90))) := rfl
  go_enter Tryz.func76, Tryz.ntmps76
  go_wp2
  all_goals go_ret
  all_goals refine ⟨ret_bool ?_, rfl⟩
  all_goals go_light
  all_goals rw [H.out]
  all_goals simp
  all_goals omega
theorem rup_any (c : UInt8) (w : World) : Calls Tryz.prog 69 #[.int .u8 (c.toNat : Int)] w fun e w' => e = .returned (.bool (upB c)) ∧ w = w' := by
  have H : Hid (upB c = (decide (65 ≤ (c.toNat : Int)) && decide ((c.toNat : Int) ≤ 90))) := rfl
  go_enter Tryz.func69, Tryz.ntmps69
  go_wp2
  all_goals go_ret
  all_goals refine ⟨ret_bool ?_, rfl⟩
  all_goals go_light
  all_goals rw [H.out]
  all_goals simp
  all_goals omega

def nmB (c : UInt8) : Bool := lowB c || digB c || (c.toNat : Int) == 45
def nameB (l : List UInt8) : Bool := decide (1 ≤ l.length) && decide (l.length ≤ 16) && lowB (l.getD 0 0) && !((l.getD (l.length - 1) 0).toNat == (45 : Int)) && l.all nmB
theorem all_snoc (s : ByteArray) (k : Nat) (h : k < s.size) (p : UInt8 → Bool) : (s.data.toList.take (k + 1)).all p = ((s.data.toList.take k).all p && p s[k]) := by
  rw [List.take_succ_eq_append_getElem (by simpa using h)]
  simp
  rfl
theorem all_bad (s : ByteArray) (k : Nat) (h : k < s.size) (p : UInt8 → Bool) (hp : p s[k] = false) : s.data.toList.all p = false := by
  rw [List.all_eq_false]
  refine ⟨s[k], ?_, by simp [hp]⟩
  show s.data[k] ∈ _
  simp
theorem all_good (s : ByteArray) (k : Nat) (h : ¬ k < s.size) (p : UInt8 → Bool) (hp : (s.data.toList.take k).all p = true) : s.data.toList.all p = true := by
  rwa [List.take_of_length_le (by simpa using h)] at hp

set_option maxHeartbeats 400000 in
theorem name_any (s : ByteArray) (w : World) (hs : s.size ≤ maxLen) : Calls Tryz.prog 63 #[.string s] w fun e w' => e = .returned (.bool (nameB s.data.toList)) ∧ w = w' := by
  unfold maxLen at hs
  by_cases h1 : s.size < 1
  · have H : Hid (nameB s.data.toList = false) := by show _ = _; simp [nameB]; omega
    go_enter Tryz.func63, Tryz.ntmps63
    go_wp2
    go_ret
    exact ⟨ret_bool H.out.symm, rfl⟩
  by_cases h2 : 16 < s.size
  · have H : Hid (nameB s.data.toList = false) := by show _ = _; simp [nameB]; omega
    go_enter Tryz.func63, Tryz.ntmps63
    go_wp2
    go_ret
    exact ⟨ret_bool H.out.symm, rfl⟩
  have h0 : 0 < s.size := by omega
  have e0 : s.data.toList.getD 0 0 = s[0] := by simp [List.getD, h0]; rfl
  have E0 := Zh e0
  clear e0
  cases h3 : lowB s[0]
  · have H : Hid (nameB s.data.toList = false) := by
      show _ = _
      simp only [nameB, E0.out, h3]; simp
    go_enter Tryz.func63, Tryz.ntmps63
    go_wp2_with (go_at_call 74; refine (small_any _ _).mono ?_; rintro e w' ⟨rfl, rfl⟩)
    go_ret
    exact ⟨ret_bool H.out.symm, rfl⟩
  have hl : s.size - 1 < s.size := by omega
  have e2 : s.data.toList.getD (s.data.toList.length - 1) 0 = s[s.size - 1] := by simp [List.getD, hl]; rfl
  have E2 := Zh e2
  clear e2
  have hl2 : (0 : Int) ≤ (s.size : Int) - 1 := by omega
  cases h4 : ((s[s.size - 1].toNat : Int) == 45)
  · have HN : Hid (nameB s.data.toList = s.data.toList.all nmB) := by
      show _ = _
      simp only [nameB, E0.out, h3, E2.out, h4]; simp; omega
    go_enter Tryz.func63, Tryz.ntmps63
    go_wp2_with (go_at_call 74; refine (small_any _ _).mono ?_; rintro e w' ⟨rfl, rfl⟩)
    go_loop [29] (fun i => ∃ k : Nat, k ≤ s.size ∧ i = .int .i64 k ∧ Hid ((s.data.toList.take k).all nmB = true)) (fun i => s.size - (intOf i).toNat)
    case atStart => exact ⟨0, Nat.zero_le _, rfl, by show _ = _; simp⟩
    case round =>
      obtain ⟨k, hk, rfl, hall⟩ := hrel
      by_cases hlt : k < s.size
      · have HS := Zh (all_snoc s k hlt nmB)
        have HB := Zh (fun h : nmB s[k] = false => HN.out.trans (all_bad s k hlt nmB h))
        have HM : Hid (nmB s[k] = (lowB s[k] || digB s[k] || (s[k].toNat : Int) == 45)) := rfl
        cases e1 : lowB s[k] <;> cases e2 : digB s[k] <;> cases e3 : ((s[k].toNat : Int) == 45)
        all_goals
          have e4 : ((s[k].toNat : Int) != 45) = !((s[k].toNat : Int) == 45) := rfl
          rw [e3] at e4
          have HV := Zh (HM.out.trans (by rw [e1, e2, e3]))
          go_wp2_with (first | (go_at_call 74; refine (small_any _ _).mono ?_; rintro e w' ⟨rfl, rfl⟩) | (go_at_call 75; refine (digit_any _ _).mono ?_; rintro e w' ⟨rfl, rfl⟩))
          first
          | exact ⟨⟨k + 1, by omega, by go_num, by show _ = _; rw [HS.out, hall.out, HV.out]; rfl⟩, by simp [intOf]; omega⟩
          | (go_ret; exact ⟨ret_bool (HB.out HV.out).symm, rfl⟩)
      · have HG := Zh (HN.out.trans (all_good s k hlt nmB hall.out))
        go_wp2
        go_ret
        exact ⟨ret_bool HG.out.symm, rfl⟩
  · have H : Hid (nameB s.data.toList = false) := by
      show _ = _
      simp only [nameB, E0.out, h3, E2.out, h4]; simp
    go_enter Tryz.func63, Tryz.ntmps63
    go_wp2_with (go_at_call 74; refine (small_any _ _).mono ?_; rintro e w' ⟨rfl, rfl⟩)
    go_ret
    exact ⟨ret_bool H.out.symm, rfl⟩

set_option maxHeartbeats 400000 in
theorem rname_any (s : ByteArray) (w : World) (hs : s.size ≤ maxLen) : Calls Tryz.prog 48 #[.string s] w fun e w' => e = .returned (.bool (nameB s.data.toList)) ∧ w = w' := by
  unfold maxLen at hs
  by_cases h1 : s.size < 1
  · have H : Hid (nameB s.data.toList = false) := by show _ = _; simp [nameB]; omega
    go_enter Tryz.func48, Tryz.ntmps48
    go_wp2
    go_ret
    exact ⟨ret_bool H.out.symm, rfl⟩
  by_cases h2 : 16 < s.size
  · have H : Hid (nameB s.data.toList = false) := by show _ = _; simp [nameB]; omega
    go_enter Tryz.func48, Tryz.ntmps48
    go_wp2
    go_ret
    exact ⟨ret_bool H.out.symm, rfl⟩
  have h0 : 0 < s.size := by omega
  have e0 : s.data.toList.getD 0 0 = s[0] := by simp [List.getD, h0]; rfl
  have E0 := Zh e0
  clear e0
  cases h3 : lowB s[0]
  · have H : Hid (nameB s.data.toList = false) := by
      show _ = _
      simp only [nameB, E0.out, h3]; simp
    go_enter Tryz.func48, Tryz.ntmps48
    go_wp2_with (go_at_call 67; refine (rlow_any _ _).mono ?_; rintro e w' ⟨rfl, rfl⟩)
    go_ret
    exact ⟨ret_bool H.out.symm, rfl⟩
  have hl : s.size - 1 < s.size := by omega
  have e2 : s.data.toList.getD (s.data.toList.length - 1) 0 = s[s.size - 1] := by simp [List.getD, hl]; rfl
  have E2 := Zh e2
  clear e2
  have hl2 : (0 : Int) ≤ (s.size : Int) - 1 := by omega
  cases h4 : ((s[s.size - 1].toNat : Int) == 45)
  · have HN : Hid (nameB s.data.toList = s.data.toList.all nmB) := by
      show _ = _
      simp only [nameB, E0.out, h3, E2.out, h4]; simp; omega
    go_enter Tryz.func48, Tryz.ntmps48
    go_wp2_with (go_at_call 67; refine (rlow_any _ _).mono ?_; rintro e w' ⟨rfl, rfl⟩)
    go_loop [3] (fun i => ∃ k : Nat, k ≤ s.size ∧ i = .int .i64 k ∧ Hid ((s.data.toList.take k).all nmB = true)) (fun i => s.size - (intOf i).toNat)
    case atStart => exact ⟨0, Nat.zero_le _, rfl, by show _ = _; simp⟩
    case round =>
      obtain ⟨k, hk, rfl, hall⟩ := hrel
      by_cases hlt : k < s.size
      · have HS := Zh (all_snoc s k hlt nmB)
        have HB := Zh (fun h : nmB s[k] = false => HN.out.trans (all_bad s k hlt nmB h))
        have HM : Hid (nmB s[k] = (lowB s[k] || digB s[k] || (s[k].toNat : Int) == 45)) := rfl
        cases e1 : lowB s[k] <;> cases e2 : digB s[k] <;> cases e3 : ((s[k].toNat : Int) == 45)
        all_goals
          have e4 : ((s[k].toNat : Int) != 45) = !((s[k].toNat : Int) == 45) := rfl
          rw [e3] at e4
          have HV := Zh (HM.out.trans (by rw [e1, e2, e3]))
          go_wp2_with (first | (go_at_call 67; refine (rlow_any _ _).mono ?_; rintro e w' ⟨rfl, rfl⟩) | (go_at_call 68; refine (rdigit_any _ _).mono ?_; rintro e w' ⟨rfl, rfl⟩))
          first
          | exact ⟨⟨k + 1, by omega, by go_num, by show _ = _; rw [HS.out, hall.out, HV.out]; rfl⟩, by simp [intOf]; omega⟩
          | (go_ret; exact ⟨ret_bool (HB.out HV.out).symm, rfl⟩)
      · have HG := Zh (HN.out.trans (all_good s k hlt nmB hall.out))
        go_wp2
        go_ret
        exact ⟨ret_bool HG.out.symm, rfl⟩
  · have H : Hid (nameB s.data.toList = false) := by
      show _ = _
      simp only [nameB, E0.out, h3, E2.out, h4]; simp
    go_enter Tryz.func48, Tryz.ntmps48
    go_wp2_with (go_at_call 67; refine (rlow_any _ _).mono ?_; rintro e w' ⟨rfl, rfl⟩)
    go_ret
    exact ⟨ret_bool H.out.symm, rfl⟩

end Go.Proofs.YtphijnkiiokieaaGreatDoor.Id
/- UID of ident and of the document. -/
namespace Go.Proofs.YtphijnkiiokieaaGreatDoor.Id
open Go.RowKit
set_option linter.unusedVariables false
def spB (c : UInt8) : Bool := (c.toNat : Int) == 45 || (c.toNat : Int) == 46 || (c.toNat : Int) == 95 || (c.toNat : Int) == 64
def uiB (c : UInt8) : Bool := lowB c || upB c || digB c || spB c
def uidB (l : List UInt8) : Bool := decide (1 ≤ l.length) && decide (l.length ≤ 24) && l.all uiB
def ixB (c : UInt8) : Int := Lib.indexByte [45, 46, 95, 64] c
theorem eqb (a c : UInt8) : (a == c) = ((c.toNat : Int) == (a.toNat : Int)) := by
  rw [Bool.eq_iff_iff]
  simp only [beq_iff_eq, Int.natCast_inj]
  constructor
  · rintro rfl; rfl
  · intro h; exact (UInt8.toNat_inj.1 h).symm
theorem ixB_eq (c : UInt8) : decide (ixB c < 0) = !spB c := by
  have h1 := eqb 45 c
  have h2 := eqb 46 c
  have h3 := eqb 95 c
  have h4 := eqb 64 c
  simp only [show ((45 : UInt8).toNat : Int) = 45 from rfl, show ((46 : UInt8).toNat : Int) = 46 from rfl, show ((95 : UInt8).toNat : Int) = 95 from rfl, show ((64 : UInt8).toNat : Int) = 64 from rfl] at h1 h2 h3 h4
  simp only [ixB, spB, Lib.indexByte, h1, h2, h3, h4]
  cases (c.toNat : Int) == 45 <;> cases (c.toNat : Int) == 46 <;> cases (c.toNat : Int) == 95 <;> cases (c.toNat : Int) == 64 <;> simp
theorem idx_any (c : UInt8) (w : World) : Calls Tryz.prog 77 #[.string { data := #[45, 46, 95, 64] }, .int .u8 (c.toNat : Int)] w fun e w' => e = .returned (.int .i64 (ixB c)) ∧ w = w' :=
  (Tryz.strings_IndexByte ⟨#[45, 46, 95, 64]⟩ (c.toNat : Int) w).mono fun e w' ⟨h1, h2⟩ => ⟨h1.trans (ret_i64 (by simp [ixB])), h2.symm⟩
set_option maxHeartbeats 400000 in
theorem uid_any (s : ByteArray) (w : World) (hs : s.size ≤ maxLen) : Calls Tryz.prog 64 #[.string s] w fun e w' => e = .returned (.bool (uidB s.data.toList)) ∧ w = w' := by
  unfold maxLen at hs
  by_cases h1 : s.size < 1
  · have H : Hid (uidB s.data.toList = false) := by show _ = _; simp [uidB]; omega
    go_enter Tryz.func64, Tryz.ntmps64
    go_wp2
    go_ret
    exact ⟨ret_bool H.out.symm, rfl⟩
  by_cases h2 : 24 < s.size
  · have H : Hid (uidB s.data.toList = false) := by show _ = _; simp [uidB]; omega
    go_enter Tryz.func64, Tryz.ntmps64
    go_wp2
    go_ret
    exact ⟨ret_bool H.out.symm, rfl⟩
  have HN : Hid (uidB s.data.toList = s.data.toList.all uiB) := by
    show _ = _
    simp only [uidB]; simp; omega
  go_enter Tryz.func64, Tryz.ntmps64
  go_wp2
  go_loop [15] (fun i => ∃ k : Nat, k ≤ s.size ∧ i = .int .i64 k ∧ Hid ((s.data.toList.take k).all uiB = true)) (fun i => s.size - (intOf i).toNat)
  case atStart => exact ⟨0, Nat.zero_le _, rfl, by show _ = _; simp⟩
  case round =>
    obtain ⟨k, hk, rfl, hall⟩ := hrel
    by_cases hlt : k < s.size
    · have HS := Zh (all_snoc s k hlt uiB)
      have HB := Zh (fun h : uiB s[k] = false => HN.out.trans (all_bad s k hlt uiB h))
      have HM : Hid (uiB s[k] = (lowB s[k] || upB s[k] || digB s[k] || spB s[k])) := rfl
      cases e0 : lowB s[k]
      rotate_left
      · skip
        have HV := Zh (HM.out.trans (by rw [e0]))
        go_wp2_with (first | (go_at_call 74; refine (small_any _ _).mono ?_; rintro e w' ⟨rfl, rfl⟩) | (go_at_call 76; refine (great_any _ _).mono ?_; rintro e w' ⟨rfl, rfl⟩) | (go_at_call 75; refine (digit_any _ _).mono ?_; rintro e w' ⟨rfl, rfl⟩) | (go_at_call 77; refine (idx_any _ _).mono ?_; rintro e w' ⟨rfl, rfl⟩))
        exact ⟨⟨k + 1, by omega, by go_num, by show _ = _; rw [HS.out, hall.out, HV.out]; rfl⟩, by simp [intOf]; omega⟩
      cases e1 : upB s[k]
      rotate_left
      · skip
        have HV := Zh (HM.out.trans (by rw [e0, e1]))
        go_wp2_with (first | (go_at_call 74; refine (small_any _ _).mono ?_; rintro e w' ⟨rfl, rfl⟩) | (go_at_call 76; refine (great_any _ _).mono ?_; rintro e w' ⟨rfl, rfl⟩) | (go_at_call 75; refine (digit_any _ _).mono ?_; rintro e w' ⟨rfl, rfl⟩) | (go_at_call 77; refine (idx_any _ _).mono ?_; rintro e w' ⟨rfl, rfl⟩))
        exact ⟨⟨k + 1, by omega, by go_num, by show _ = _; rw [HS.out, hall.out, HV.out]; rfl⟩, by simp [intOf]; omega⟩
      cases e2 : digB s[k]
      rotate_left
      · skip
        have HV := Zh (HM.out.trans (by rw [e0, e1, e2]))
        go_wp2_with (first | (go_at_call 74; refine (small_any _ _).mono ?_; rintro e w' ⟨rfl, rfl⟩) | (go_at_call 76; refine (great_any _ _).mono ?_; rintro e w' ⟨rfl, rfl⟩) | (go_at_call 75; refine (digit_any _ _).mono ?_; rintro e w' ⟨rfl, rfl⟩) | (go_at_call 77; refine (idx_any _ _).mono ?_; rintro e w' ⟨rfl, rfl⟩))
        exact ⟨⟨k + 1, by omega, by go_num, by show _ = _; rw [HS.out, hall.out, HV.out]; rfl⟩, by simp [intOf]; omega⟩
      cases e3 : spB s[k]
      rotate_left
      · have e9 := ixB_eq s[k]
        rw [e3] at e9
        have HV := Zh (HM.out.trans (by rw [e0, e1, e2, e3]))
        go_wp2_with (first | (go_at_call 74; refine (small_any _ _).mono ?_; rintro e w' ⟨rfl, rfl⟩) | (go_at_call 76; refine (great_any _ _).mono ?_; rintro e w' ⟨rfl, rfl⟩) | (go_at_call 75; refine (digit_any _ _).mono ?_; rintro e w' ⟨rfl, rfl⟩) | (go_at_call 77; refine (idx_any _ _).mono ?_; rintro e w' ⟨rfl, rfl⟩))
        exact ⟨⟨k + 1, by omega, by go_num, by show _ = _; rw [HS.out, hall.out, HV.out]; rfl⟩, by simp [intOf]; omega⟩
      have e9 := ixB_eq s[k]
      rw [e3] at e9
      have HV := Zh (HM.out.trans (by rw [e0, e1, e2, e3]))
      go_wp2_with (first | (go_at_call 74; refine (small_any _ _).mono ?_; rintro e w' ⟨rfl, rfl⟩) | (go_at_call 76; refine (great_any _ _).mono ?_; rintro e w' ⟨rfl, rfl⟩) | (go_at_call 75; refine (digit_any _ _).mono ?_; rintro e w' ⟨rfl, rfl⟩) | (go_at_call 77; refine (idx_any _ _).mono ?_; rintro e w' ⟨rfl, rfl⟩))
      go_ret
      exact ⟨ret_bool (HB.out HV.out).symm, rfl⟩
    · have HG := Zh (HN.out.trans (all_good s k hlt uiB hall.out))
      go_wp2
      go_ret
      exact ⟨ret_bool HG.out.symm, rfl⟩
set_option maxHeartbeats 400000 in
theorem ruid_any (s : ByteArray) (w : World) (hs : s.size ≤ maxLen) : Calls Tryz.prog 49 #[.string s] w fun e w' => e = .returned (.bool (uidB s.data.toList)) ∧ w = w' := by
  unfold maxLen at hs
  by_cases h1 : s.size < 1
  · have H : Hid (uidB s.data.toList = false) := by show _ = _; simp [uidB]; omega
    go_enter Tryz.func49, Tryz.ntmps49
    go_wp2
    go_ret
    exact ⟨ret_bool H.out.symm, rfl⟩
  by_cases h2 : 24 < s.size
  · have H : Hid (uidB s.data.toList = false) := by show _ = _; simp [uidB]; omega
    go_enter Tryz.func49, Tryz.ntmps49
    go_wp2
    go_ret
    exact ⟨ret_bool H.out.symm, rfl⟩
  have HN : Hid (uidB s.data.toList = s.data.toList.all uiB) := by
    show _ = _
    simp only [uidB]; simp; omega
  go_enter Tryz.func49, Tryz.ntmps49
  go_wp2
  go_loop [3] (fun i => ∃ k : Nat, k ≤ s.size ∧ i = .int .i64 k ∧ Hid ((s.data.toList.take k).all uiB = true)) (fun i => s.size - (intOf i).toNat)
  case atStart => exact ⟨0, Nat.zero_le _, rfl, by show _ = _; simp⟩
  case round =>
    obtain ⟨k, hk, rfl, hall⟩ := hrel
    by_cases hlt : k < s.size
    · have HS := Zh (all_snoc s k hlt uiB)
      have HB := Zh (fun h : uiB s[k] = false => HN.out.trans (all_bad s k hlt uiB h))
      have HM : Hid (uiB s[k] = (lowB s[k] || upB s[k] || digB s[k] || ((s[k].toNat : Int) == 45 || (s[k].toNat : Int) == 46 || (s[k].toNat : Int) == 95 || (s[k].toNat : Int) == 64))) := rfl
      cases e0 : lowB s[k]
      rotate_left
      · skip
        have HV := Zh (HM.out.trans (by rw [e0]))
        go_wp2_with (first | (go_at_call 67; refine (rlow_any _ _).mono ?_; rintro e w' ⟨rfl, rfl⟩) | (go_at_call 69; refine (rup_any _ _).mono ?_; rintro e w' ⟨rfl, rfl⟩) | (go_at_call 68; refine (rdigit_any _ _).mono ?_; rintro e w' ⟨rfl, rfl⟩) | (go_at_call 77; refine (idx_any _ _).mono ?_; rintro e w' ⟨rfl, rfl⟩))
        exact ⟨⟨k + 1, by omega, by go_num, by show _ = _; rw [HS.out, hall.out, HV.out]; rfl⟩, by simp [intOf]; omega⟩
      cases e1 : upB s[k]
      rotate_left
      · skip
        have HV := Zh (HM.out.trans (by rw [e0, e1]))
        go_wp2_with (first | (go_at_call 67; refine (rlow_any _ _).mono ?_; rintro e w' ⟨rfl, rfl⟩) | (go_at_call 69; refine (rup_any _ _).mono ?_; rintro e w' ⟨rfl, rfl⟩) | (go_at_call 68; refine (rdigit_any _ _).mono ?_; rintro e w' ⟨rfl, rfl⟩) | (go_at_call 77; refine (idx_any _ _).mono ?_; rintro e w' ⟨rfl, rfl⟩))
        exact ⟨⟨k + 1, by omega, by go_num, by show _ = _; rw [HS.out, hall.out, HV.out]; rfl⟩, by simp [intOf]; omega⟩
      cases e2 : digB s[k]
      rotate_left
      · skip
        have HV := Zh (HM.out.trans (by rw [e0, e1, e2]))
        go_wp2_with (first | (go_at_call 67; refine (rlow_any _ _).mono ?_; rintro e w' ⟨rfl, rfl⟩) | (go_at_call 69; refine (rup_any _ _).mono ?_; rintro e w' ⟨rfl, rfl⟩) | (go_at_call 68; refine (rdigit_any _ _).mono ?_; rintro e w' ⟨rfl, rfl⟩) | (go_at_call 77; refine (idx_any _ _).mono ?_; rintro e w' ⟨rfl, rfl⟩))
        exact ⟨⟨k + 1, by omega, by go_num, by show _ = _; rw [HS.out, hall.out, HV.out]; rfl⟩, by simp [intOf]; omega⟩
      cases e3 : ((s[k].toNat : Int) == 45)
      rotate_left
      · have f3 : ((s[k].toNat : Int) != 45) = !((s[k].toNat : Int) == 45) := rfl
        rw [e3] at f3
        have HV := Zh (HM.out.trans (by rw [e0, e1, e2, e3]))
        go_wp2_with (first | (go_at_call 67; refine (rlow_any _ _).mono ?_; rintro e w' ⟨rfl, rfl⟩) | (go_at_call 69; refine (rup_any _ _).mono ?_; rintro e w' ⟨rfl, rfl⟩) | (go_at_call 68; refine (rdigit_any _ _).mono ?_; rintro e w' ⟨rfl, rfl⟩) | (go_at_call 77; refine (idx_any _ _).mono ?_; rintro e w' ⟨rfl, rfl⟩))
        exact ⟨⟨k + 1, by omega, by go_num, by show _ = _; rw [HS.out, hall.out, HV.out]; rfl⟩, by simp [intOf]; omega⟩
      have f3 : ((s[k].toNat : Int) != 45) = !((s[k].toNat : Int) == 45) := rfl
      rw [e3] at f3
      cases e4 : ((s[k].toNat : Int) == 46)
      rotate_left
      · have f4 : ((s[k].toNat : Int) != 46) = !((s[k].toNat : Int) == 46) := rfl
        rw [e4] at f4
        have HV := Zh (HM.out.trans (by rw [e0, e1, e2, e3, e4]))
        go_wp2_with (first | (go_at_call 67; refine (rlow_any _ _).mono ?_; rintro e w' ⟨rfl, rfl⟩) | (go_at_call 69; refine (rup_any _ _).mono ?_; rintro e w' ⟨rfl, rfl⟩) | (go_at_call 68; refine (rdigit_any _ _).mono ?_; rintro e w' ⟨rfl, rfl⟩) | (go_at_call 77; refine (idx_any _ _).mono ?_; rintro e w' ⟨rfl, rfl⟩))
        exact ⟨⟨k + 1, by omega, by go_num, by show _ = _; rw [HS.out, hall.out, HV.out]; rfl⟩, by simp [intOf]; omega⟩
      have f4 : ((s[k].toNat : Int) != 46) = !((s[k].toNat : Int) == 46) := rfl
      rw [e4] at f4
      cases e5 : ((s[k].toNat : Int) == 95)
      rotate_left
      · have f5 : ((s[k].toNat : Int) != 95) = !((s[k].toNat : Int) == 95) := rfl
        rw [e5] at f5
        have HV := Zh (HM.out.trans (by rw [e0, e1, e2, e3, e4, e5]))
        go_wp2_with (first | (go_at_call 67; refine (rlow_any _ _).mono ?_; rintro e w' ⟨rfl, rfl⟩) | (go_at_call 69; refine (rup_any _ _).mono ?_; rintro e w' ⟨rfl, rfl⟩) | (go_at_call 68; refine (rdigit_any _ _).mono ?_; rintro e w' ⟨rfl, rfl⟩) | (go_at_call 77; refine (idx_any _ _).mono ?_; rintro e w' ⟨rfl, rfl⟩))
        exact ⟨⟨k + 1, by omega, by go_num, by show _ = _; rw [HS.out, hall.out, HV.out]; rfl⟩, by simp [intOf]; omega⟩
      have f5 : ((s[k].toNat : Int) != 95) = !((s[k].toNat : Int) == 95) := rfl
      rw [e5] at f5
      cases e6 : ((s[k].toNat : Int) == 64)
      rotate_left
      · have f6 : ((s[k].toNat : Int) != 64) = !((s[k].toNat : Int) == 64) := rfl
        rw [e6] at f6
        have HV := Zh (HM.out.trans (by rw [e0, e1, e2, e3, e4, e5, e6]))
        go_wp2_with (first | (go_at_call 67; refine (rlow_any _ _).mono ?_; rintro e w' ⟨rfl, rfl⟩) | (go_at_call 69; refine (rup_any _ _).mono ?_; rintro e w' ⟨rfl, rfl⟩) | (go_at_call 68; refine (rdigit_any _ _).mono ?_; rintro e w' ⟨rfl, rfl⟩) | (go_at_call 77; refine (idx_any _ _).mono ?_; rintro e w' ⟨rfl, rfl⟩))
        exact ⟨⟨k + 1, by omega, by go_num, by show _ = _; rw [HS.out, hall.out, HV.out]; rfl⟩, by simp [intOf]; omega⟩
      have f6 : ((s[k].toNat : Int) != 64) = !((s[k].toNat : Int) == 64) := rfl
      rw [e6] at f6
      have HV := Zh (HM.out.trans (by rw [e0, e1, e2, e3, e4, e5, e6]))
      go_wp2_with (first | (go_at_call 67; refine (rlow_any _ _).mono ?_; rintro e w' ⟨rfl, rfl⟩) | (go_at_call 69; refine (rup_any _ _).mono ?_; rintro e w' ⟨rfl, rfl⟩) | (go_at_call 68; refine (rdigit_any _ _).mono ?_; rintro e w' ⟨rfl, rfl⟩) | (go_at_call 77; refine (idx_any _ _).mono ?_; rintro e w' ⟨rfl, rfl⟩))
      go_ret
      exact ⟨ret_bool (HB.out HV.out).symm, rfl⟩
    · have HG := Zh (HN.out.trans (all_good s k hlt uiB hall.out))
      go_wp2
      go_ret
      exact ⟨ret_bool HG.out.symm, rfl⟩
end Go.Proofs.YtphijnkiiokieaaGreatDoor.Id
/- Conditions. -/
namespace Go.Proofs.YtphijnkiiokieaaGreatDoor.Et
open Go.RowKit
set_option linter.unusedVariables false
def mayB (k v : Int) : Bool := if k = 0 ∨ k = 1 ∨ k = 2 then v == 0 else if k = 3 then decide (1 ≤ v) else false
theorem kinds (k : Int) : k = 0 ∨ k = 1 ∨ k = 2 ∨ k = 3 ∨ ((k == 0) = false ∧ (k == 1) = false ∧ (k == 2) = false ∧ (k == 3) = false ∧ ∀ v, mayB k v = false) := by
  by_cases h0 : k = 0
  · exact .inl h0
  by_cases h1 : k = 1
  · exact .inr (.inl h1)
  by_cases h2 : k = 2
  · exact .inr (.inr (.inl h2))
  by_cases h3 : k = 3
  · exact .inr (.inr (.inr (.inl h3)))
  · exact .inr (.inr (.inr (.inr ⟨by simpa using h0, by simpa using h1, by simpa using h2, by simpa using h3, fun v => by simp [mayB, h0, h1, h2, h3]⟩)))
set_option maxHeartbeats 400000 in
theorem may_any (k v : Int) (w : World) : Calls Tryz.prog 66 #[.agg #[.int .i64 k, .int .i64 v]] w fun e w' => e = .returned (.bool (mayB k v)) ∧ Below w.heap.size w w' := by
  rcases kinds k with rfl | rfl | rfl | rfl | ⟨h0, h1, h2, h3, hm⟩
  · go_enter Tryz.func66, Tryz.ntmps66
    go_wp2
    all_goals go_ret
    all_goals exact ⟨by first | rfl | (simp [mayB]; done), by go_grown⟩
  · go_enter Tryz.func66, Tryz.ntmps66
    go_wp2
    all_goals go_ret
    all_goals exact ⟨by first | rfl | (simp [mayB]; done), by go_grown⟩
  · go_enter Tryz.func66, Tryz.ntmps66
    go_wp2
    all_goals go_ret
    all_goals exact ⟨by first | rfl | (simp [mayB]; done), by go_grown⟩
  · go_enter Tryz.func66, Tryz.ntmps66
    go_wp2
    all_goals go_ret
    all_goals exact ⟨by first | rfl | (simp [mayB]; done), by go_grown⟩
  · have HM := Zh hm
    clear hm
    go_enter Tryz.func66, Tryz.ntmps66
    go_wp2
    all_goals go_ret
    all_goals exact ⟨ret_bool (HM.out v).symm, by go_grown⟩
set_option maxHeartbeats 400000 in
theorem rmay_any (k v : Int) (w : World) : Calls Tryz.prog 51 #[.agg #[.int .i64 k, .int .i64 v]] w fun e w' => e = .returned (.bool (mayB k v)) ∧ Below w.heap.size w w' := by
  rcases kinds k with rfl | rfl | rfl | rfl | ⟨h0, h1, h2, h3, hm⟩
  · go_enter Tryz.func51, Tryz.ntmps51
    go_wp2
    all_goals go_ret
    all_goals exact ⟨by first | rfl | (simp [mayB]; done), by go_grown⟩
  · go_enter Tryz.func51, Tryz.ntmps51
    go_wp2
    all_goals go_ret
    all_goals exact ⟨by first | rfl | (simp [mayB]; done), by go_grown⟩
  · go_enter Tryz.func51, Tryz.ntmps51
    go_wp2
    all_goals go_ret
    all_goals exact ⟨by first | rfl | (simp [mayB]; done), by go_grown⟩
  · go_enter Tryz.func51, Tryz.ntmps51
    go_wp2
    all_goals go_ret
    all_goals exact ⟨by first | rfl | (simp [mayB]; done), by go_grown⟩
  · have HM := Zh hm
    clear hm
    go_enter Tryz.func51, Tryz.ntmps51
    go_wp2
    all_goals go_ret
    all_goals exact ⟨ret_bool (HM.out v).symm, by go_grown⟩
end Go.Proofs.YtphijnkiiokieaaGreatDoor.Et
namespace Go.Proofs.YtphijnkiiokieaaGreatDoor
open Go.RowKit
def low (c : UInt8) : UInt8 := if 65 ≤ (c.toNat : Int) ∧ (c.toNat : Int) ≤ 90 then UInt8.ofNat (c.toNat + 32) else c
def lowL (l : List UInt8) : List UInt8 := l.map low
def lowS (s : ByteArray) : ByteArray := ⟨(lowL s.data.toList).toArray⟩
theorem bs_ext {a b : ByteArray} (h : a.data.toList = b.data.toList) : a = b := ByteArray.ext (Array.toList_inj.1 h)
theorem bs_size (a : ByteArray) : a.size = a.data.toList.length := by simp
def Row (w : World) (g m : Nat) (l : List UInt8) : Prop := ∃ C : Array Value, w.heap[g]? = some (.cells C 5 (m, m + 1)) ∧ C.size = m ∧ l.length ≤ m ∧ ∀ (j : Nat) (u : UInt8), l[j]? = some u → C[j]? = some (.int .u8 (u.toNat : Int))
theorem Row.cell {w : World} {g m : Nat} {l : List UInt8} (h : Row w g m l) {j : Nat} {u : UInt8} (hj : l[j]? = some u) : w.cell? ⟨g, j, none⟩ = some (.int .u8 (u.toNat : Int)) ∧ w.frozen? ⟨g, j, none⟩ = false := by
 obtain ⟨C, h1, h2, h3, h4⟩ := h; have hlt := (List.getElem?_eq_some_iff.1 hj).1; refine ⟨by rw [cell_of_row w g j C 5 _ h1]; exact h4 j u hj, ?_⟩
 simp [World.frozen?, h1]
 omega
theorem Row.set {w : World} {g m : Nat} {l : List UInt8} (h : Row w g m l) (k : Nat) (u : UInt8) : Row (w.setCell ⟨g, k, none⟩ (.int .u8 (u.toNat : Int))) g m (l.set k u) := by
 obtain ⟨C, h1, h2, h3, h4⟩ := h; refine ⟨C.setIfInBounds k (.int .u8 (u.toNat : Int)), by simp [World.setCell, Array.getElem?_modify, h1], by rw [Array.size_setIfInBounds]; exact h2, by rw [List.length_set]; exact h3, fun j v hj => ?_⟩; rw [List.getElem?_set] at hj; rw [Array.getElem?_setIfInBounds]
 by_cases e : k = j
 ·
  subst e; rw [if_pos rfl] at hj
  by_cases hk : k < l.length
  ·
   rw [if_pos hk] at hj
   cases hj
   rw [if_pos rfl, if_pos (by omega)]
  ·
   rw [if_neg hk] at hj; cases hj
 ·
  rw [if_neg e] at hj; rw [if_neg e]
  exact h4 j v hj
theorem row_str (w : World) (s : ByteArray) (cap : Nat) (hc : s.size ≤ cap) (g : Nat) (hg : w.heap.size = g) : Row (w.alloc (.cells (bytesRow s cap) 5 ((bytesRow s cap).size, (bytesRow s cap).size + 1))) g cap s.data.toList := by
 have hz : (bytesRow s cap).size = cap := by unfold bytesRow; simp; omega
 refine ⟨bytesRow s cap, by rw [← hg]; simpa [hz] using heap_alloc_new w (.cells (bytesRow s cap) 5 ((bytesRow s cap).size, (bytesRow s cap).size + 1)), hz, by simpa using hc, fun j u hj => ?_⟩; have hlt := (List.getElem?_eq_some_iff.1 hj).1; rw [bytesRow_at s cap j (by simpa using hlt)]; have := (List.getElem?_eq_some_iff.1 hj).2
 simp at this
 rw [← this]
theorem row_conv {w : World} {g m : Nat} {l : List UInt8} (h : Row w g m l) (cap : Nat) : (convert 27 9 (.slice (some ⟨g, 0, none⟩) l.length cap)).run Tryz.prog w = .ok (.string ⟨l.toArray⟩) w :=
 run_convert_bytes_back _ 27 9 5 _ cap l Tryz.underlying27 Tryz.underlying5 Tryz.underlying9 (fun j hj => by
  have := (h.cell (j := j) (List.getElem?_eq_getElem hj)).1; rw [add_plain, Nat.zero_add]
  simpa using this)
def part (l : List UInt8) (k : Nat) : List UInt8 := lowL (l.take k) ++ l.drop k
theorem part_len (l : List UInt8) (k : Nat) : (part l k).length = l.length := by unfold part lowL; simp; omega
theorem part_at (l : List UInt8) (k : Nat) (hk : k < l.length) : (part l k)[k]? = some l[k] := by
 unfold part lowL
 rw [List.getElem?_append_right (by simp; omega)]
 simp [Nat.min_eq_left (Nat.le_of_lt hk)]
theorem part_set (l : List UInt8) (k : Nat) (hk : k < l.length) : (part l k).set k (low l[k]) = part l (k + 1) := by
 apply List.ext_getElem?
 intro j; rw [List.getElem?_set]
 unfold part lowL
 by_cases e : k = j
 ·
  subst e; rw [if_pos rfl, if_pos (by simp; omega), List.getElem?_append_left (by simp; omega)]
  simp [hk]
 ·
  rw [if_neg e]
  by_cases hj : j < k
  ·
   rw [List.getElem?_append_left (by simp; omega), List.getElem?_append_left (by simp; omega)]
   simp [hj, show j < k + 1 by omega]
  ·
   rw [List.getElem?_append_right (by simp; omega), List.getElem?_append_right (by simp; omega)]; simp only [List.length_map, List.length_take, List.getElem?_drop]
   congr 1
   omega
theorem part_same (l : List UInt8) (k : Nat) (hk : k < l.length) (h : low l[k] = l[k]) : part l (k + 1) = part l k := by
 rw [← part_set l k hk, h]
 apply List.ext_getElem?
 intro j; rw [List.getElem?_set]
 by_cases e : k = j
 ·
  subst e; rw [if_pos rfl, if_pos (by rw [part_len]; exact hk), part_at l k hk]
 ·
  rw [if_neg e]
end Go.Proofs.YtphijnkiiokieaaGreatDoor
