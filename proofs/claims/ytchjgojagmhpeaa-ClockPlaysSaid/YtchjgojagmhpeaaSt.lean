/- ClockStays: its walk. -/
import Derived.Test.YtchjgojagmhpeaaTi
import Derived.Laws.BitsAllLaws
import Derived.Deep.DrawnRows
import Derived.Deep.RegionHeld3
namespace Go.Proofs.Ytchjgojagmhpeaa
open Go.RowKit Go.Maps
open Go.ChangeShapes Go.ChangeAt
set_option linter.unusedVariables false
set_option maxRecDepth 100000
attribute [local go_sem ↓] Go.wp_at_zero Go.wp_at_succ
theorem i64_and (a b : Int) (h3 : 0 ≤ b) (h4 : b < 9223372036854775808) : bits .and .i64 a b = (((BitVec.ofInt 64 a).toNat &&& b.toNat : Nat) : Int) := by
  obtain ⟨B, rfl⟩ := Int.eq_ofNat_of_zero_le h3
  have hx : (BitVec.ofInt 64 a).toNat &&& B < 2 ^ 63 := Nat.and_lt_two_pow _ (by omega)
  show IntKind.i64.wrap ((BitVec.ofInt 64 a &&& BitVec.ofInt 64 (B : Int)).toNat : Int) = _
  rw [BitVec.toNat_and, ofInt_u64 B (by omega), IntWalk.i64_in _ (by omega)]
  rfl
theorem i64_low (a : Int) (i : Nat) (hi : i < 63) : bits .and .i64 a (2 ^ i - 1) = a % 2 ^ i := by
  have hp : (2 : Int) ^ i ≤ 2 ^ 62 := by exact_mod_cast Nat.pow_le_pow_right (by omega) (show i ≤ 62 by omega)
  have hq : (0 : Int) < 2 ^ i := by exact_mod_cast Nat.two_pow_pos i
  have e : ((2 : Int) ^ i - 1).toNat = 2 ^ i - 1 := by have : ((2 : Int) ^ i) = ((2 ^ i : Nat) : Int) := by push_cast; rfl
                                                       omega
  rw [i64_and a _ (by omega) (by omega), e, Nat.and_two_pow_sub_one_eq_mod, BitVec.toNat_ofInt]
  have h64 : ((2 : Int) ^ i) ∣ 2 ^ 64 := by exact_mod_cast Int.natCast_dvd_natCast.2 (Nat.pow_dvd_pow 2 (show i ≤ 64 by omega))
  rw [Int.natCast_emod, Int.toNat_of_nonneg (Int.emod_nonneg _ (by decide))]
  rw [show (((2 ^ i : Nat) : Int)) = 2 ^ i by exact_mod_cast rfl]
  exact Int.emod_emod_of_dvd _ h64
theorem i64_1023 (a : Int) : bits .and .i64 a 1023 = a % 1024 := i64_low a 10 (by decide)
/-- Acts that came in: three numbers each. -/
def Acts (w : World) (A : Option Addr) (len b off : Nat) (xs : Nat → Int × Int × Int) : Prop :=
  (0 < len → A = some ⟨b, off, none⟩ ∧ b < w.heap.size) ∧ ∀ i, i < len → w.cell? ⟨b, off + i * 3, none⟩ = some (.int .i64 (xs i).1) ∧ w.cell? ⟨b, off + i * 3 + 1, none⟩ = some (.int .i64 (xs i).2.1) ∧ w.cell? ⟨b, off + i * 3 + 2, none⟩ = some (.int .i64 (xs i).2.2) ∧ wf (xs i).2.1 ∧ wf (xs i).2.2
theorem acts_of {w : World} {A : Option Addr} {len cap : Nat} (S : Sh.ok w (Sh.slice 3 (Sh.agg 3 [(0, 1, (Sh.int .i64)), (1, 1, (Sh.int .i64)), (2, 1, (Sh.int .i64))])) [.slice A len cap]) :
    ∃ b off xs, len ≤ cap ∧ cap ≤ maxLen ∧ Acts w A len b off xs := by
  obtain ⟨b, off, hl, hm, hA, hc⟩ := slice_at S (by omega)
  have h : ∀ i, ∃ x : Int × Int × Int, i < len → w.cell? ⟨b, off + i * 3, none⟩ = some (.int .i64 x.1) ∧ w.cell? ⟨b, off + i * 3 + 1, none⟩ = some (.int .i64 x.2.1) ∧ w.cell? ⟨b, off + i * 3 + 2, none⟩ = some (.int .i64 x.2.2) ∧ wf x.2.1 ∧ wf x.2.2 := by
    intro i
    by_cases hi : i < len
    · obtain ⟨cs, hlen, hok, hat⟩ := hc i hi
      simp only [Sh.ok, Sh.okAll] at hok
      obtain ⟨_, ⟨x, e1, w1⟩, ⟨y, e2, w2⟩, ⟨z, e3, w3⟩, _⟩ := hok
      have hl2 : ∃ c0 c1 c2, cs = [c0, c1, c2] := by
        match cs, hlen with
        | [c0, c1, c2], _ => exact ⟨c0, c1, c2, rfl⟩
      obtain ⟨c0, c1, c2, rfl⟩ := hl2
      simp at e1 e2 e3
      subst e1 e2 e3
      exact ⟨(x, y, z), fun _ => ⟨hat 0 (by omega), hat 1 (by omega), hat 2 (by omega), w2, w3⟩⟩
    · exact ⟨(0, 0, 0), fun h => absurd h hi⟩
  exact ⟨b, off, fun i => (h i).choose, hl, hm, hA, fun i hi => (h i).choose_spec hi⟩
theorem Acts.keep {w w' : World} {A : Option Addr} {len b off : Nat} {xs : Nat → Int × Int × Int} (h : Acts w A len b off xs) (hb : Below w.heap.size w w') : Acts w' A len b off xs :=
  ⟨fun hl => ⟨(h.1 hl).1, Nat.lt_of_lt_of_le (h.1 hl).2 hb.size⟩, fun i hi => by
    obtain ⟨h1, h2, h3, h4⟩ := h.2 i hi
    have hlt := (h.1 (by omega)).2
    exact ⟨by rw [hb.cell (p := ⟨b, _, none⟩) hlt]; exact h1, by rw [hb.cell (p := ⟨b, _, none⟩) hlt]; exact h2, by rw [hb.cell (p := ⟨b, _, none⟩) hlt]; exact h3, h4⟩⟩
section
variable {w0 w : World} {R b n : Nat} {now : Int} {D : MD}
theorem cs_set (h : Cs w0 w R b now n D) (hn : n ≤ 1000000) (x v : Int) (hx : wf x) (hv : wf v) : Calls Try.prog 11 #[.pointer (some ⟨R, 0, none⟩), .int .i64 x, .int .i64 v] w fun e w' => e = .returned (.tuple #[]) ∧ Cs w0 w' R b now (n + 1) (D.put (.int .i64 x) (.lit (.int .i64 v))) :=
  (set_any h.clk hn x v hx hv).mono fun _ _ ⟨a, c, d⟩ => ⟨a, h.step c d⟩
theorem cs_drop (h : Cs w0 w R b now n D) (x : Int) (hx : wf x) (ok : Bool) (hok : (al D x).isSome = ok) : Calls Try.prog 13 #[.pointer (some ⟨R, 0, none⟩), .int .i64 x] w fun e w' => e = .returned (.bool ok) ∧ Cs w0 w' R b now n (D.del (.int .i64 x)) :=
  (drop_any h.clk x hx).mono fun _ _ ⟨a, c, d⟩ => ⟨by rw [a, hok], h.step c d⟩
theorem cs_due (h : Cs w0 w R b now n D) (x : Int) (hx : wf x) (v : Bool) (hv : dueB D now x = v) : Calls Try.prog 18 #[.pointer (some ⟨R, 0, none⟩), .int .i64 x] w fun e w' => e = .returned (.bool v) ∧ w' = w := by
  rw [← hv]
  exact due_any h.clk x hx
end
theorem due_put {D : MD} (h : IsMap D) (x v t : Int) : dueB (D.put (.int .i64 x) (.lit (.int .i64 v))) t x = decide (v ≤ t) := by unfold dueB; rw [al_put h]
theorem put_some {D : MD} (h : IsMap D) (x v : Int) : (al (D.put (.int .i64 x) (.lit (.int .i64 v))) x).isSome = true := by rw [al_put h]; rfl
theorem del_none (D : MD) (x : Int) : (al (D.del (.int .i64 x)) x).isSome = false := by rw [al_del]; rfl
theorem due_del (D : MD) (x t : Int) : dueB (D.del (.int .i64 x)) t x = false := by unfold dueB; rw [al_del]
/-- What the loop leaves: a time, some alarms. -/
def Rel (w0 wr : World) (R b k : Nat) : Prop := ∃ (now : Int) (n : Nat) (D : MD), 0 ≤ now ∧ now ≤ 1023 * (k : Int) ∧ n ≤ k ∧ Cs w0 wr R b now n D
set_option maxHeartbeats 8000000 in
theorem stays_zero (w : World) (A : Option Addr) (len cap blk off : Nat) (xs : Nat → Int × Int × Int) (hl : len ≤ cap) (hm : cap ≤ maxLen) (hlen : len ≤ 100) (hA : Acts w A len blk off xs) (who at_ nn : Int) (hw : wf who) (hn0 : 0 ≤ nn) (hn1 : nn ≤ 1000)  :
    Calls Try.prog 6 #[.slice A len cap, .int .i64 who, .int .i64 0, .int .i64 nn] w fun e w' => e = .returned (.bool true) ∧ Below w.heap.size w w' := by
  have HA := Lib.hid hA
  have HW := Lib.hid hw
  have hl2 : ¬ (len : Int) > 100 := by omega
  have n2 : ¬ nn < 0 := by omega
  have n3 : ¬ nn > 1000 := by omega
  clear hA hw
  unfold maxLen at hm
  go_enter Try.func6, Try.ntmps6
  go_wp2_with fail
  refine (first_any _).mono ?_
  rintro _ w1 ⟨rfl, hb⟩
  have HB1 := Lib.hid hb
  clear hb
  go_wp2_with fail
  refine (new_any _).mono ?_
  rintro _ w2 ⟨R, b, rfl, h1, h2, h3, h4⟩
  have HC := Lib.hid (show Cs w w2 R b 0 0 (.map []) from ⟨h1, Nat.le_trans HB1.out.size h2, Nat.le_trans HB1.out.size h3, HB1.out.trans (h4.mono HB1.out.size)⟩)
  clear h1 h2 h3 h4
  go_wp2_with fail
  go_loopw [10] (fun i wr => ∃ k : Nat, k ≤ len ∧ i = .int .i64 (k : Int) ∧ Rel w wr R b k) (fun i _ => len - (intOf i).toNat)
  case atStart => exact ⟨0, Nat.zero_le _, rfl, 0, 0, _, by omega, by omega, by omega, HC.out⟩
  case round =>
    obtain ⟨k, hk, rfl, now, n, D, r1, r2, r3, hc⟩ := hrel
    have r4 : now ≤ 102300 := by omega
    have HCC := Lib.hid hc
    by_cases hlt : k < len
    · obtain ⟨c0, c1, c2, f1, f2⟩ := (HA.out.keep hc.bel).2 k hlt
      obtain rfl := (HA.out.1 (by omega)).1
      have HX := Lib.hid (fun w' (h : Below w.heap.size w w') => (HA.out.keep h).2 k hlt)
      obtain ⟨op, hop⟩ : ∃ op, op = (xs k).1 := ⟨_, rfl⟩
      obtain ⟨x, hx⟩ : ∃ x, x = (xs k).2.1 := ⟨_, rfl⟩
      obtain ⟨y, hy⟩ : ∃ y, y = (xs k).2.2 := ⟨_, rfl⟩
      rw [← hop] at c0 HX
      rw [← hx] at c1 f1 HX
      rw [← hy] at c2 f2 HX
      have F1 := Lib.hid f1
      have F2 := Lib.hid f2
      clear hop hx hy hc f1 f2
      by_cases o0 : op = 0
      · subst o0
        have hbit := i64_1023 y
        obtain ⟨z, hz⟩ : ∃ z, y % 1024 = z := ⟨_, rfl⟩
        have z1 : 0 ≤ z := by omega
        have z2 : z ≤ 1023 := by omega
        rw [hz] at hbit
        clear hz
        go_wp2_with (first
          | (go_at_call 9
             (with_reducible refine (cs_yes HCC.out (by omega) z (now + z) z1 (by omega) rfl).mono ?_)
             rintro _ w3 ⟨rfl, h1⟩
             have HC3 := Lib.hid h1
             clear h1)
          | fail)
        exact ⟨⟨k + 1, by omega, by go_num, now + z, n, D, by omega, by omega, by omega, HC3.out⟩, by simp [intOf]; omega⟩
      · have o0' : (op == 0) = false := by simpa using o0
        by_cases o1 : op = 1
        · subst o1
          go_wp2_with fail
          have c1d : wr.drew.cell? ⟨blk, off + k * 3 + 1, none⟩ = some (.int .i64 x) := c1
          have c2d : wr.drew.cell? ⟨blk, off + k * 3 + 2, none⟩ = some (.int .i64 y) := c2
          have HCD := Lib.hid (show Cs w wr.drew R b now n D from HCC.out.drewN 1)
          go_region_held3 (fun w' => w'.cell? ⟨blk, off + k * 3 + 1, none⟩ = some (.int .i64 x) ∧ w'.cell? ⟨blk, off + k * 3 + 2, none⟩ = some (.int .i64 y)) (refine ⟨?_, ?_⟩ <;> assumption) (first
            | (go_at_call 11
               (with_reducible refine (cs_set HCD.out (by omega) x y F1.out F2.out).mono ?_)
               rintro _ w3 ⟨rfl, h1⟩
               have HC3 := Lib.hid h1
               obtain ⟨e0, e1, e2, _⟩ := HX.out _ h1.bel
               clear h1))
          all_goals (
            go_wp2_with fail
            exact ⟨⟨k + 1, by omega, by go_num, now, n + 1, _, by omega, by omega, by omega, HC3.out⟩, by simp [intOf]; omega⟩)
        · have o1' : (op == 1) = false := by simpa using o1
          go_wp2_with (first
            | (go_at_call 13
               (with_reducible refine (cs_drop HCC.out x F1.out _ rfl).mono ?_)
               rintro _ w3 ⟨rfl, h1⟩
               have HC3 := Lib.hid h1
               clear h1)
            | fail)
          exact ⟨⟨k + 1, by omega, by go_num, now, n, _, by omega, by omega, by omega, HC3.out⟩, by simp [intOf]; omega⟩
    · clear hc
      have HIS := Lib.hid HCC.out.clk.is
      go_wp2_with fail
      (with_reducible refine (now_any HCC.out.clk).mono ?_)
      rintro _ x1 ⟨rfl, hw⟩
      replace hw := hw.symm
      subst hw
      go_wp2_with fail
      (with_reducible refine (cs_set HCC.out (by omega) who (now) HW.out (wf_mk (by omega) (by omega))).mono ?_)
      rintro _ y5 ⟨rfl, h1⟩
      have HC5 := Lib.hid h1
      have HDU := Lib.hid (fun t => due_put HIS.out who (now) t)
      clear h1
      go_wp2_with fail
      (with_reducible refine (cs_due HC5.out who HW.out true (by rw [HDU.out]; simp)).mono ?_)
      rintro _ v50 ⟨rfl, hw⟩
      replace hw := hw.symm
      subst hw
      go_wp2_with fail
      (with_reducible refine (cs_yes HC5.out (by omega) (nn) (now + nn) (by omega) (by omega) (by omega)).mono ?_)
      rintro _ y6 ⟨rfl, h1⟩
      have HC6 := Lib.hid h1
      clear h1
      go_wp2_with fail
      (with_reducible refine (cs_due HC6.out who HW.out true (by rw [HDU.out]; simp <;> omega)).mono ?_)
      rintro _ v61 ⟨rfl, hw⟩
      replace hw := hw.symm
      subst hw
      go_wp2_with fail
      (with_reducible refine (cs_due HC6.out who HW.out true (by rw [HDU.out]; simp <;> omega)).mono ?_)
      rintro _ v65 ⟨rfl, hw⟩
      replace hw := hw.symm
      subst hw
      go_wp2_with fail
      (with_reducible refine (cs_yes HC6.out (by omega) (7) (now + nn + 7) (by omega) (by omega) (by omega)).mono ?_)
      rintro _ y7 ⟨rfl, h1⟩
      have HC7 := Lib.hid h1
      clear h1
      go_wp2_with fail
      (with_reducible refine (cs_due HC7.out who HW.out true (by rw [HDU.out]; simp <;> omega)).mono ?_)
      rintro _ v75 ⟨rfl, hw⟩
      replace hw := hw.symm
      subst hw
      go_wp2_with fail
      (with_reducible refine (cs_drop HC7.out who HW.out true (put_some HIS.out _ _)).mono ?_)
      rintro _ z1 ⟨rfl, h1⟩
      have HE := Lib.hid h1
      clear h1
      go_wp2_with fail
      (with_reducible refine (cs_due HE.out who HW.out false (due_del _ _ _)).mono ?_)
      rintro _ z2 ⟨rfl, hw⟩
      replace hw := hw.symm
      subst hw
      go_wp2_with fail
      (with_reducible refine (cs_drop HE.out who HW.out false (del_none _ _)).mono ?_)
      rintro _ z3 ⟨rfl, h1⟩
      have HF := Lib.hid h1
      clear h1
      go_wp2_with fail
      (with_reducible refine (at_any HF.out.clk who HW.out).mono ?_)
      rintro _ z4 ⟨rfl, hw⟩
      replace hw := hw.symm
      subst hw
      rw [al_del]
      go_wp2
      go_ret
      exact ⟨rfl, HF.out.bel⟩
set_option maxHeartbeats 8000000 in
theorem stays_past (w : World) (A : Option Addr) (len cap blk off : Nat) (xs : Nat → Int × Int × Int) (hl : len ≤ cap) (hm : cap ≤ maxLen) (hlen : len ≤ 100) (hA : Acts w A len blk off xs) (who at_ nn : Int) (hw : wf who) (hn0 : 0 ≤ nn) (hn1 : nn ≤ 1000) (ha0 : 0 < at_) (ha1 : at_ ≤ 1000) (hna : at_ ≤ nn) :
    Calls Try.prog 6 #[.slice A len cap, .int .i64 who, .int .i64 at_, .int .i64 nn] w fun e w' => e = .returned (.bool true) ∧ Below w.heap.size w w' := by
  have HA := Lib.hid hA
  have HW := Lib.hid hw
  have hl2 : ¬ (len : Int) > 100 := by omega
  have n2 : ¬ nn < 0 := by omega
  have n3 : ¬ nn > 1000 := by omega
  have a2 : ¬ at_ < 0 := by omega
  have a3 : ¬ at_ > 1000 := by omega
  have a4 : (at_ == 0) = false := by simp; omega
  clear hA hw
  unfold maxLen at hm
  go_enter Try.func6, Try.ntmps6
  go_wp2_with fail
  refine (first_any _).mono ?_
  rintro _ w1 ⟨rfl, hb⟩
  have HB1 := Lib.hid hb
  clear hb
  go_wp2_with fail
  refine (new_any _).mono ?_
  rintro _ w2 ⟨R, b, rfl, h1, h2, h3, h4⟩
  have HC := Lib.hid (show Cs w w2 R b 0 0 (.map []) from ⟨h1, Nat.le_trans HB1.out.size h2, Nat.le_trans HB1.out.size h3, HB1.out.trans (h4.mono HB1.out.size)⟩)
  clear h1 h2 h3 h4
  go_wp2_with fail
  go_loopw [10] (fun i wr => ∃ k : Nat, k ≤ len ∧ i = .int .i64 (k : Int) ∧ Rel w wr R b k) (fun i _ => len - (intOf i).toNat)
  case atStart => exact ⟨0, Nat.zero_le _, rfl, 0, 0, _, by omega, by omega, by omega, HC.out⟩
  case round =>
    obtain ⟨k, hk, rfl, now, n, D, r1, r2, r3, hc⟩ := hrel
    have r4 : now ≤ 102300 := by omega
    have HCC := Lib.hid hc
    by_cases hlt : k < len
    · obtain ⟨c0, c1, c2, f1, f2⟩ := (HA.out.keep hc.bel).2 k hlt
      obtain rfl := (HA.out.1 (by omega)).1
      have HX := Lib.hid (fun w' (h : Below w.heap.size w w') => (HA.out.keep h).2 k hlt)
      obtain ⟨op, hop⟩ : ∃ op, op = (xs k).1 := ⟨_, rfl⟩
      obtain ⟨x, hx⟩ : ∃ x, x = (xs k).2.1 := ⟨_, rfl⟩
      obtain ⟨y, hy⟩ : ∃ y, y = (xs k).2.2 := ⟨_, rfl⟩
      rw [← hop] at c0 HX
      rw [← hx] at c1 f1 HX
      rw [← hy] at c2 f2 HX
      have F1 := Lib.hid f1
      have F2 := Lib.hid f2
      clear hop hx hy hc f1 f2
      by_cases o0 : op = 0
      · subst o0
        have hbit := i64_1023 y
        obtain ⟨z, hz⟩ : ∃ z, y % 1024 = z := ⟨_, rfl⟩
        have z1 : 0 ≤ z := by omega
        have z2 : z ≤ 1023 := by omega
        rw [hz] at hbit
        clear hz
        go_wp2_with (first
          | (go_at_call 9
             (with_reducible refine (cs_yes HCC.out (by omega) z (now + z) z1 (by omega) rfl).mono ?_)
             rintro _ w3 ⟨rfl, h1⟩
             have HC3 := Lib.hid h1
             clear h1)
          | fail)
        exact ⟨⟨k + 1, by omega, by go_num, now + z, n, D, by omega, by omega, by omega, HC3.out⟩, by simp [intOf]; omega⟩
      · have o0' : (op == 0) = false := by simpa using o0
        by_cases o1 : op = 1
        · subst o1
          go_wp2_with fail
          have c1d : wr.drew.cell? ⟨blk, off + k * 3 + 1, none⟩ = some (.int .i64 x) := c1
          have c2d : wr.drew.cell? ⟨blk, off + k * 3 + 2, none⟩ = some (.int .i64 y) := c2
          have HCD := Lib.hid (show Cs w wr.drew R b now n D from HCC.out.drewN 1)
          go_region_held3 (fun w' => w'.cell? ⟨blk, off + k * 3 + 1, none⟩ = some (.int .i64 x) ∧ w'.cell? ⟨blk, off + k * 3 + 2, none⟩ = some (.int .i64 y)) (refine ⟨?_, ?_⟩ <;> assumption) (first
            | (go_at_call 11
               (with_reducible refine (cs_set HCD.out (by omega) x y F1.out F2.out).mono ?_)
               rintro _ w3 ⟨rfl, h1⟩
               have HC3 := Lib.hid h1
               obtain ⟨e0, e1, e2, _⟩ := HX.out _ h1.bel
               clear h1))
          all_goals (
            go_wp2_with fail
            exact ⟨⟨k + 1, by omega, by go_num, now, n + 1, _, by omega, by omega, by omega, HC3.out⟩, by simp [intOf]; omega⟩)
        · have o1' : (op == 1) = false := by simpa using o1
          go_wp2_with (first
            | (go_at_call 13
               (with_reducible refine (cs_drop HCC.out x F1.out _ rfl).mono ?_)
               rintro _ w3 ⟨rfl, h1⟩
               have HC3 := Lib.hid h1
               clear h1)
            | fail)
          exact ⟨⟨k + 1, by omega, by go_num, now, n, _, by omega, by omega, by omega, HC3.out⟩, by simp [intOf]; omega⟩
    · clear hc
      have HIS := Lib.hid HCC.out.clk.is
      go_wp2_with fail
      (with_reducible refine (now_any HCC.out.clk).mono ?_)
      rintro _ x1 ⟨rfl, hw⟩
      replace hw := hw.symm
      subst hw
      go_wp2_with fail
      (with_reducible refine (cs_set HCC.out (by omega) who (now + at_) HW.out (wf_mk (by omega) (by omega))).mono ?_)
      rintro _ y5 ⟨rfl, h1⟩
      have HC5 := Lib.hid h1
      have HDU := Lib.hid (fun t => due_put HIS.out who (now + at_) t)
      clear h1
      go_wp2_with fail
      (with_reducible refine (cs_due HC5.out who HW.out false (by rw [HDU.out]; simp <;> omega)).mono ?_)
      rintro _ v55 ⟨rfl, hw⟩
      replace hw := hw.symm
      subst hw
      go_wp2_with fail
      (with_reducible refine (cs_yes HC5.out (by omega) (nn) (now + nn) (by omega) (by omega) (by omega)).mono ?_)
      rintro _ y6 ⟨rfl, h1⟩
      have HC6 := Lib.hid h1
      clear h1
      go_wp2_with fail
      (with_reducible refine (cs_due HC6.out who HW.out true (by rw [HDU.out]; simp <;> omega)).mono ?_)
      rintro _ v63 ⟨rfl, hw⟩
      replace hw := hw.symm
      subst hw
      go_wp2_with fail
      (with_reducible refine (cs_due HC6.out who HW.out true (by rw [HDU.out]; simp <;> omega)).mono ?_)
      rintro _ v60 ⟨rfl, hw⟩
      replace hw := hw.symm
      subst hw
      go_wp2_with fail
      (with_reducible refine (cs_yes HC6.out (by omega) (7) (now + nn + 7) (by omega) (by omega) (by omega)).mono ?_)
      rintro _ y7 ⟨rfl, h1⟩
      have HC7 := Lib.hid h1
      clear h1
      go_wp2_with fail
      (with_reducible refine (cs_due HC7.out who HW.out true (by rw [HDU.out]; simp <;> omega)).mono ?_)
      rintro _ v70 ⟨rfl, hw⟩
      replace hw := hw.symm
      subst hw
      go_wp2_with fail
      (with_reducible refine (cs_drop HC7.out who HW.out true (put_some HIS.out _ _)).mono ?_)
      rintro _ z1 ⟨rfl, h1⟩
      have HE := Lib.hid h1
      clear h1
      go_wp2_with fail
      (with_reducible refine (cs_due HE.out who HW.out false (due_del _ _ _)).mono ?_)
      rintro _ z2 ⟨rfl, hw⟩
      replace hw := hw.symm
      subst hw
      go_wp2_with fail
      (with_reducible refine (cs_drop HE.out who HW.out false (del_none _ _)).mono ?_)
      rintro _ z3 ⟨rfl, h1⟩
      have HF := Lib.hid h1
      clear h1
      go_wp2_with fail
      (with_reducible refine (at_any HF.out.clk who HW.out).mono ?_)
      rintro _ z4 ⟨rfl, hw⟩
      replace hw := hw.symm
      subst hw
      rw [al_del]
      go_wp2
      go_ret
      exact ⟨rfl, HF.out.bel⟩
set_option maxHeartbeats 8000000 in
theorem stays_late (w : World) (A : Option Addr) (len cap blk off : Nat) (xs : Nat → Int × Int × Int) (hl : len ≤ cap) (hm : cap ≤ maxLen) (hlen : len ≤ 100) (hA : Acts w A len blk off xs) (who at_ nn : Int) (hw : wf who) (hn0 : 0 ≤ nn) (hn1 : nn ≤ 1000) (ha0 : 0 < at_) (ha1 : at_ ≤ 1000) (hna : nn < at_) :
    Calls Try.prog 6 #[.slice A len cap, .int .i64 who, .int .i64 at_, .int .i64 nn] w fun e w' => e = .returned (.bool true) ∧ Below w.heap.size w w' := by
  have HA := Lib.hid hA
  have HW := Lib.hid hw
  have hl2 : ¬ (len : Int) > 100 := by omega
  have n2 : ¬ nn < 0 := by omega
  have n3 : ¬ nn > 1000 := by omega
  have a2 : ¬ at_ < 0 := by omega
  have a3 : ¬ at_ > 1000 := by omega
  have a4 : (at_ == 0) = false := by simp; omega
  clear hA hw
  unfold maxLen at hm
  go_enter Try.func6, Try.ntmps6
  go_wp2_with fail
  refine (first_any _).mono ?_
  rintro _ w1 ⟨rfl, hb⟩
  have HB1 := Lib.hid hb
  clear hb
  go_wp2_with fail
  refine (new_any _).mono ?_
  rintro _ w2 ⟨R, b, rfl, h1, h2, h3, h4⟩
  have HC := Lib.hid (show Cs w w2 R b 0 0 (.map []) from ⟨h1, Nat.le_trans HB1.out.size h2, Nat.le_trans HB1.out.size h3, HB1.out.trans (h4.mono HB1.out.size)⟩)
  clear h1 h2 h3 h4
  go_wp2_with fail
  go_loopw [10] (fun i wr => ∃ k : Nat, k ≤ len ∧ i = .int .i64 (k : Int) ∧ Rel w wr R b k) (fun i _ => len - (intOf i).toNat)
  case atStart => exact ⟨0, Nat.zero_le _, rfl, 0, 0, _, by omega, by omega, by omega, HC.out⟩
  case round =>
    obtain ⟨k, hk, rfl, now, n, D, r1, r2, r3, hc⟩ := hrel
    have r4 : now ≤ 102300 := by omega
    have HCC := Lib.hid hc
    by_cases hlt : k < len
    · obtain ⟨c0, c1, c2, f1, f2⟩ := (HA.out.keep hc.bel).2 k hlt
      obtain rfl := (HA.out.1 (by omega)).1
      have HX := Lib.hid (fun w' (h : Below w.heap.size w w') => (HA.out.keep h).2 k hlt)
      obtain ⟨op, hop⟩ : ∃ op, op = (xs k).1 := ⟨_, rfl⟩
      obtain ⟨x, hx⟩ : ∃ x, x = (xs k).2.1 := ⟨_, rfl⟩
      obtain ⟨y, hy⟩ : ∃ y, y = (xs k).2.2 := ⟨_, rfl⟩
      rw [← hop] at c0 HX
      rw [← hx] at c1 f1 HX
      rw [← hy] at c2 f2 HX
      have F1 := Lib.hid f1
      have F2 := Lib.hid f2
      clear hop hx hy hc f1 f2
      by_cases o0 : op = 0
      · subst o0
        have hbit := i64_1023 y
        obtain ⟨z, hz⟩ : ∃ z, y % 1024 = z := ⟨_, rfl⟩
        have z1 : 0 ≤ z := by omega
        have z2 : z ≤ 1023 := by omega
        rw [hz] at hbit
        clear hz
        go_wp2_with (first
          | (go_at_call 9
             (with_reducible refine (cs_yes HCC.out (by omega) z (now + z) z1 (by omega) rfl).mono ?_)
             rintro _ w3 ⟨rfl, h1⟩
             have HC3 := Lib.hid h1
             clear h1)
          | fail)
        exact ⟨⟨k + 1, by omega, by go_num, now + z, n, D, by omega, by omega, by omega, HC3.out⟩, by simp [intOf]; omega⟩
      · have o0' : (op == 0) = false := by simpa using o0
        by_cases o1 : op = 1
        · subst o1
          go_wp2_with fail
          have c1d : wr.drew.cell? ⟨blk, off + k * 3 + 1, none⟩ = some (.int .i64 x) := c1
          have c2d : wr.drew.cell? ⟨blk, off + k * 3 + 2, none⟩ = some (.int .i64 y) := c2
          have HCD := Lib.hid (show Cs w wr.drew R b now n D from HCC.out.drewN 1)
          go_region_held3 (fun w' => w'.cell? ⟨blk, off + k * 3 + 1, none⟩ = some (.int .i64 x) ∧ w'.cell? ⟨blk, off + k * 3 + 2, none⟩ = some (.int .i64 y)) (refine ⟨?_, ?_⟩ <;> assumption) (first
            | (go_at_call 11
               (with_reducible refine (cs_set HCD.out (by omega) x y F1.out F2.out).mono ?_)
               rintro _ w3 ⟨rfl, h1⟩
               have HC3 := Lib.hid h1
               obtain ⟨e0, e1, e2, _⟩ := HX.out _ h1.bel
               clear h1))
          all_goals (
            go_wp2_with fail
            exact ⟨⟨k + 1, by omega, by go_num, now, n + 1, _, by omega, by omega, by omega, HC3.out⟩, by simp [intOf]; omega⟩)
        · have o1' : (op == 1) = false := by simpa using o1
          go_wp2_with (first
            | (go_at_call 13
               (with_reducible refine (cs_drop HCC.out x F1.out _ rfl).mono ?_)
               rintro _ w3 ⟨rfl, h1⟩
               have HC3 := Lib.hid h1
               clear h1)
            | fail)
          exact ⟨⟨k + 1, by omega, by go_num, now, n, _, by omega, by omega, by omega, HC3.out⟩, by simp [intOf]; omega⟩
    · clear hc
      have HIS := Lib.hid HCC.out.clk.is
      go_wp2_with fail
      (with_reducible refine (now_any HCC.out.clk).mono ?_)
      rintro _ x1 ⟨rfl, hw⟩
      replace hw := hw.symm
      subst hw
      go_wp2_with fail
      (with_reducible refine (cs_set HCC.out (by omega) who (now + at_) HW.out (wf_mk (by omega) (by omega))).mono ?_)
      rintro _ y5 ⟨rfl, h1⟩
      have HC5 := Lib.hid h1
      have HDU := Lib.hid (fun t => due_put HIS.out who (now + at_) t)
      clear h1
      go_wp2_with fail
      (with_reducible refine (cs_due HC5.out who HW.out false (by rw [HDU.out]; simp <;> omega)).mono ?_)
      rintro _ v55 ⟨rfl, hw⟩
      replace hw := hw.symm
      subst hw
      go_wp2_with fail
      (with_reducible refine (cs_yes HC5.out (by omega) (nn) (now + nn) (by omega) (by omega) (by omega)).mono ?_)
      rintro _ y6 ⟨rfl, h1⟩
      have HC6 := Lib.hid h1
      clear h1
      go_wp2_with fail
      (with_reducible refine (cs_due HC6.out who HW.out false (by rw [HDU.out]; simp <;> omega)).mono ?_)
      rintro _ v63 ⟨rfl, hw⟩
      replace hw := hw.symm
      subst hw
      go_wp2_with fail
      (with_reducible refine (cs_yes HC6.out (by omega) (at_ - nn - 1) (now + at_ - 1) (by omega) (by omega) (by omega)).mono ?_)
      rintro _ y7 ⟨rfl, h1⟩
      have HC7 := Lib.hid h1
      clear h1
      go_wp2_with fail
      (with_reducible refine (cs_due HC7.out who HW.out false (by rw [HDU.out]; simp <;> omega)).mono ?_)
      rintro _ v72 ⟨rfl, hw⟩
      replace hw := hw.symm
      subst hw
      go_wp2_with fail
      (with_reducible refine (cs_yes HC7.out (by omega) (1) (now + at_) (by omega) (by omega) (by omega)).mono ?_)
      rintro _ y8 ⟨rfl, h1⟩
      have HC8 := Lib.hid h1
      clear h1
      go_wp2_with fail
      (with_reducible refine (cs_due HC8.out who HW.out true (by rw [HDU.out]; simp <;> omega)).mono ?_)
      rintro _ v80 ⟨rfl, hw⟩
      replace hw := hw.symm
      subst hw
      go_wp2_with fail
      (with_reducible refine (cs_yes HC8.out (by omega) (7) (now + at_ + 7) (by omega) (by omega) (by omega)).mono ?_)
      rintro _ y9 ⟨rfl, h1⟩
      have HC9 := Lib.hid h1
      clear h1
      go_wp2_with fail
      (with_reducible refine (cs_due HC9.out who HW.out true (by rw [HDU.out]; simp <;> omega)).mono ?_)
      rintro _ v91 ⟨rfl, hw⟩
      replace hw := hw.symm
      subst hw
      go_wp2_with fail
      (with_reducible refine (cs_drop HC9.out who HW.out true (put_some HIS.out _ _)).mono ?_)
      rintro _ z1 ⟨rfl, h1⟩
      have HE := Lib.hid h1
      clear h1
      go_wp2_with fail
      (with_reducible refine (cs_due HE.out who HW.out false (due_del _ _ _)).mono ?_)
      rintro _ z2 ⟨rfl, hw⟩
      replace hw := hw.symm
      subst hw
      go_wp2_with fail
      (with_reducible refine (cs_drop HE.out who HW.out false (del_none _ _)).mono ?_)
      rintro _ z3 ⟨rfl, h1⟩
      have HF := Lib.hid h1
      clear h1
      go_wp2_with fail
      (with_reducible refine (at_any HF.out.clk who HW.out).mono ?_)
      rintro _ z4 ⟨rfl, hw⟩
      replace hw := hw.symm
      subst hw
      rw [al_del]
      go_wp2
      go_ret
      exact ⟨rfl, HF.out.bel⟩
theorem stays_no (w : World) (A : Option Addr) (len cap : Nat) (who at_ nn : Int) (h : 100 < len ∨ nn < 0 ∨ 1000 < nn ∨ at_ < 0 ∨ 1000 < at_) :
    Calls Try.prog 6 #[.slice A len cap, .int .i64 who, .int .i64 at_, .int .i64 nn] w fun e w' => e = .returned (.bool true) ∧ Below w.heap.size w w' := by
  have CF := Lib.hid first_any
  have H0 := Lib.hid (Below.refl w.heap.size w)
  by_cases b1 : (len : Int) > 100
  · clear h
    go_enter Try.func6, Try.ntmps6
    go_wp2_with (go_at_call 7; refine (CF.out _).mono ?_; rintro _ w1 ⟨rfl, h1⟩; have H0 := Lib.hid (H0.out.trans (h1.mono H0.out.size)); clear h1)
    go_ret
    exact ⟨rfl, H0.out⟩
  by_cases b2 : nn < 0
  · clear h
    go_enter Try.func6, Try.ntmps6
    go_wp2_with (go_at_call 7; refine (CF.out _).mono ?_; rintro _ w1 ⟨rfl, h1⟩; have H0 := Lib.hid (H0.out.trans (h1.mono H0.out.size)); clear h1)
    go_ret
    exact ⟨rfl, H0.out⟩
  by_cases b3 : nn > 1000
  · clear h
    go_enter Try.func6, Try.ntmps6
    go_wp2_with (go_at_call 7; refine (CF.out _).mono ?_; rintro _ w1 ⟨rfl, h1⟩; have H0 := Lib.hid (H0.out.trans (h1.mono H0.out.size)); clear h1)
    go_ret
    exact ⟨rfl, H0.out⟩
  by_cases b4 : at_ < 0
  · clear h
    go_enter Try.func6, Try.ntmps6
    go_wp2_with (go_at_call 7; refine (CF.out _).mono ?_; rintro _ w1 ⟨rfl, h1⟩; have H0 := Lib.hid (H0.out.trans (h1.mono H0.out.size)); clear h1)
    go_ret
    exact ⟨rfl, H0.out⟩
  have b5 : at_ > 1000 := by omega
  clear h
  go_enter Try.func6, Try.ntmps6
  go_wp2_with (go_at_call 7; refine (CF.out _).mono ?_; rintro _ w1 ⟨rfl, h1⟩; have H0 := Lib.hid (H0.out.trans (h1.mono H0.out.size)); clear h1)
  go_ret
  exact ⟨rfl, H0.out⟩
theorem clockStays_walk (w : World) (A0 : Option Addr) (len0 cap0 : Nat) (S0 : Sh.ok w (Sh.slice 3 (Sh.agg 3 [(0, 1, (Sh.int .i64)), (1, 1, (Sh.int .i64)), (2, 1, (Sh.int .i64))])) [.slice A0 len0 cap0]) (a1 : Int) (w1 : (Lit.int .i64 a1).wf = true) (a2 : Int) (w2 : (Lit.int .i64 a2).wf = true) (a3 : Int) (w3 : (Lit.int .i64 a3).wf = true) :
    Calls Try.prog 6 #[.slice A0 len0 cap0, .int .i64 a1, .int .i64 a2, .int .i64 a3] w fun e w' => e = .returned (.bool true) ∧ Below w.heap.size w w' := by
  obtain ⟨b, off, xs, hl, hm, hA⟩ := acts_of S0
  by_cases h : 100 < len0 ∨ a3 < 0 ∨ 1000 < a3 ∨ a2 < 0 ∨ 1000 < a2
  · exact stays_no w A0 len0 cap0 a1 a2 a3 h
  · by_cases h0 : a2 = 0
    · subst h0
      exact stays_zero w A0 len0 cap0 b off xs hl hm (by omega) hA a1 0 a3 w1 (by omega) (by omega)
    · by_cases h1 : a2 ≤ a3
      · exact stays_past w A0 len0 cap0 b off xs hl hm (by omega) hA a1 a2 a3 w1 (by omega) (by omega) (by omega) (by omega) h1
      · exact stays_late w A0 len0 cap0 b off xs hl hm (by omega) hA a1 a2 a3 w1 (by omega) (by omega) (by omega) (by omega) (by omega)
end Go.Proofs.Ytchjgojagmhpeaa
