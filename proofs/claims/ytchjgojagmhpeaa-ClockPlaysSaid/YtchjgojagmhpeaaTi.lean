/- ClockTicks: its walk. -/
import Derived.Test.YtchjgojagmhpeaaCa
namespace Go.Proofs.Ytchjgojagmhpeaa
open Go.RowKit Go.Maps
open Go.ChangeShapes Go.ChangeAt
set_option linter.unusedVariables false
set_option maxRecDepth 100000
/-- The clock as the law knows it, and nothing that was has turned. -/
structure Cs (w0 w : World) (R b : Nat) (now : Int) (n : Nat) (D : MD) : Prop where
  clk : Clk w R b now n D
  geR : w0.heap.size ≤ R
  geb : w0.heap.size ≤ b
  bel : Below w0.heap.size w0 w
section
variable {w0 w w' : World} {R b n n' : Nat} {now now' : Int} {D D' : MD}
theorem Cs.step (h : Cs w0 w R b now n D) (h2 : Clk w' R b now' n' D') (ht : Tk w w' R b) : Cs w0 w' R b now' n' D' :=
  ⟨h2, h.geR, h.geb, h.bel.trans (ht.below h.geR h.geb h.bel.size)⟩
theorem Cs.drewN (h : Cs w0 w R b now n D) (m : Nat) : Cs w0 (w.drewN m) R b now n D := ⟨h.clk.drewN m, h.geR, h.geb, below_drewN h.bel m⟩
theorem cs_yes (h : Cs w0 w R b now n D) (hr : 0 ≤ now ∧ now ≤ 1099511627776) (k now' : Int) (hk0 : 0 ≤ k) (hk : k ≤ 1099511627776 - now) (hn : now + k = now') : Calls Try.prog 9 #[.pointer (some ⟨R, 0, none⟩), .int .i64 k] w fun e w' => e = .returned (.bool true) ∧ Cs w0 w' R b now' n D := by
  refine (tick_yes h.clk hr k hk0 hk).mono ?_
  rintro _ w' ⟨rfl, h1, h2⟩
  rw [hn] at h1
  exact ⟨rfl, h.step h1 h2⟩
theorem cs_no (h : Cs w0 w R b now n D) (hr : 0 ≤ now ∧ now ≤ 1099511627776) (k : Int) (hk : k < 0 ∨ 1099511627776 - now < k) : Calls Try.prog 9 #[.pointer (some ⟨R, 0, none⟩), .int .i64 k] w fun e w' => e = .returned (.bool false) ∧ w' = w := tick_no h.clk hr k hk
end
def Ints (w : World) (A : Option Addr) (len b off : Nat) (xs : Nat → Int) : Prop :=
  (0 < len → A = some ⟨b, off, none⟩ ∧ b < w.heap.size) ∧ ∀ i, i < len → w.cell? ⟨b, off + i, none⟩ = some (.int .i64 (xs i)) ∧ (-9223372036854775808 ≤ xs i ∧ xs i ≤ 9223372036854775807)
theorem wf_i64 {a : Int} (w : (Lit.int .i64 a).wf = true) : -9223372036854775808 ≤ a ∧ a ≤ 9223372036854775807 := by simpa [Lit.wf, IntKind.min, IntKind.max, IntKind.signed, IntKind.bits] using w
theorem wf_mk {a : Int} (h1 : -9223372036854775808 ≤ a) (h2 : a ≤ 9223372036854775807) : wf a := by unfold wf; simp [Lit.wf, IntKind.min, IntKind.max, IntKind.signed, IntKind.bits]; omega
theorem ints_of {w : World} {A : Option Addr} {len cap : Nat} (S : Sh.ok w (Sh.slice 1 (Sh.int .i64)) [.slice A len cap]) : ∃ b off xs, len ≤ cap ∧ cap ≤ maxLen ∧ Ints w A len b off xs := by
  obtain ⟨b, off, hl, hm, hA, hc⟩ := slice_at S (by omega)
  have h : ∀ i, ∃ x : Int, i < len → w.cell? ⟨b, off + i, none⟩ = some (.int .i64 x) ∧ (-9223372036854775808 ≤ x ∧ x ≤ 9223372036854775807) := by
    intro i
    by_cases hi : i < len
    · obtain ⟨cs, hlen, hok, hat⟩ := hc i hi
      simp only [Sh.ok] at hok
      obtain ⟨x, e1, w1⟩ := hok
      subst e1
      have := hat 0 (by omega)
      exact ⟨x, fun _ => ⟨by simpa using this, wf_i64 w1⟩⟩
    · exact ⟨0, fun h => absurd h hi⟩
  exact ⟨b, off, fun i => (h i).choose, hl, hm, hA, fun i hi => (h i).choose_spec hi⟩
theorem Ints.keep {w w' : World} {A : Option Addr} {len b off : Nat} {xs : Nat → Int} (h : Ints w A len b off xs) (hb : Below w.heap.size w w') : Ints w' A len b off xs :=
  ⟨fun hl => ⟨(h.1 hl).1, Nat.lt_of_lt_of_le (h.1 hl).2 hb.size⟩, fun i hi => by
    obtain ⟨h1, h3⟩ := h.2 i hi
    have hlt := (h.1 (by omega)).2
    exact ⟨by rw [hb.cell (p := ⟨b, _, none⟩) hlt]; exact h1, h3⟩⟩
set_option maxHeartbeats 8000000 in
theorem ticks_in (w : World) (A : Option Addr) (len cap blk off : Nat) (xs : Nat → Int) (hl : len ≤ cap) (hm : cap ≤ maxLen) (hlen : len ≤ 100) (hA : Ints w A len blk off xs) :
    Calls Try.prog 4 #[.slice A len cap] w fun e w' => e = .returned (.bool true) ∧ Below w.heap.size w w' := by
  have HA := Lib.hid hA
  have hl2 : ¬ (len : Int) > 100 := by omega
  clear hA
  unfold maxLen at hm
  go_enter Try.func4, Try.ntmps4
  go_wp2_with fail
  refine (first_any _).mono ?_
  rintro _ w1 ⟨rfl, hb⟩
  have HB1 := Lib.hid hb
  clear hb
  go_wp2_with fail
  refine (new_any _).mono ?_
  rintro _ w2 ⟨R, b, rfl, h1, h2, h3, h4⟩
  have HC := Lib.hid (show Cs w w2 R b 0 0 (.map []) from ⟨h1, Nat.le_trans HB1.out.size h2, Nat.le_trans HB1.out.size h3, HB1.out.trans (h4.mono HB1.out.size)⟩)
  clear h1 h2 h3 h4
  go_wp2_with fail
  go_loopw [4, 5] (fun nw i wr => ∃ (k : Nat) (now : Int), k ≤ len ∧ i = .int .i64 (k : Int) ∧ nw = .int .i64 now ∧ 0 ≤ now ∧ now ≤ 1099511627776 ∧ Cs w wr R b now 0 (.map [])) (fun _ i _ => len - (intOf i).toNat)
  case atStart => exact ⟨0, 0, Nat.zero_le _, rfl, rfl, by omega, by omega, HC.out⟩
  case round =>
    obtain ⟨k, now, hk, rfl, rfl, r1, r2, hc⟩ := hrel
    have HCC := Lib.hid hc
    by_cases hlt : k < len
    · obtain ⟨cx, x1, x2⟩ := (HA.out.keep hc.bel).2 k hlt
      obtain rfl := (HA.out.1 (by omega)).1
      have HX := Lib.hid (fun w' (h : Below w.heap.size w w') => ((HA.out.keep h).2 k hlt).1)
      obtain ⟨x, hx⟩ : ∃ x, x = xs k := ⟨_, rfl⟩
      rw [← hx] at cx x1 x2 HX
      clear hx hc
      by_cases n0 : 0 ≤ x
      · by_cases n1 : x ≤ 1099511627776 - now
        · go_wp2_with (first
            | (go_at_call 9
               (with_reducible refine (cs_yes HCC.out ⟨r1, r2⟩ x (now + x) n0 n1 rfl).mono ?_)
               rintro _ w3 ⟨rfl, h1⟩
               have HC3 := Lib.hid h1
               have cx3 := HX.out _ h1.bel
               clear h1)
            | (go_at_call 17
               (with_reducible refine (now_any HC3.out.clk).mono ?_)
               rintro _ w4 ⟨rfl, hw⟩
               replace hw := hw.symm
               subst hw)
            | fail)
          exact ⟨⟨k + 1, now + x, by omega, by go_num, rfl, by omega, by omega, HC3.out⟩, by simp [intOf]; omega⟩
        · have n1' : decide (x ≤ 1099511627776 - now) = false := by simp; omega
          go_wp2_with (first
            | (go_at_call 9
               (with_reducible refine (cs_no HCC.out ⟨r1, r2⟩ x (by omega)).mono ?_)
               rintro _ w3 ⟨rfl, hw⟩
               replace hw := hw.symm
               subst hw)
            | (go_at_call 17
               (with_reducible refine (now_any HCC.out.clk).mono ?_)
               rintro _ w4 ⟨rfl, hw⟩
               replace hw := hw.symm
               subst hw)
            | fail)
          exact ⟨⟨k + 1, now, by omega, by go_num, rfl, by omega, by omega, HCC.out⟩, by simp [intOf]; omega⟩
      · have n0' : decide (0 ≤ x) = false := by simp; omega
        go_wp2_with (first
          | (go_at_call 9
             (with_reducible refine (cs_no HCC.out ⟨r1, r2⟩ x (by omega)).mono ?_)
             rintro _ w3 ⟨rfl, hw⟩
             replace hw := hw.symm
             subst hw)
          | (go_at_call 17
             (with_reducible refine (now_any HCC.out.clk).mono ?_)
             rintro _ w4 ⟨rfl, hw⟩
             replace hw := hw.symm
             subst hw)
          | fail)
        exact ⟨⟨k + 1, now, by omega, by go_num, rfl, by omega, by omega, HCC.out⟩, by simp [intOf]; omega⟩
    · clear hc
      go_wp2_with (first
        | (go_at_call 9
           (with_reducible refine (cs_yes HCC.out ⟨r1, r2⟩ (1099511627776 - now) 1099511627776 (by omega) (by omega) (by omega)).mono ?_)
           rintro _ w3 ⟨rfl, h1⟩
           have HC3 := Lib.hid h1
           clear h1 HCC)
        | (go_at_call 9
           (with_reducible refine (cs_no HC3.out (by omega) 1 (by omega)).mono ?_)
           rintro _ w4 ⟨rfl, hw⟩
           replace hw := hw.symm
           subst hw)
        | (go_at_call 9
           (with_reducible refine (cs_yes HC3.out (by omega) 0 1099511627776 (by omega) (by omega) (by omega)).mono ?_)
           rintro _ w5 ⟨rfl, h1⟩
           have HC5 := Lib.hid h1
           clear h1)
        | (go_at_call 17
           (with_reducible refine (now_any HC5.out.clk).mono ?_)
           rintro _ w6 ⟨rfl, hw⟩
           replace hw := hw.symm
           subst hw)
        | fail)
      go_ret
      exact ⟨rfl, HC5.out.bel⟩
theorem ticks_big (w : World) (A : Option Addr) (len cap : Nat) (hlen : 100 < len) :
    Calls Try.prog 4 #[.slice A len cap] w fun e w' => e = .returned (.bool true) ∧ Below w.heap.size w w' := by
  have hl2 : (len : Int) > 100 := by omega
  go_enter Try.func4, Try.ntmps4
  go_wp2_with fail
  refine (first_any _).mono ?_
  rintro _ w1 ⟨rfl, hb⟩
  have HB1 := Lib.hid hb
  clear hb
  go_wp2_with fail
  refine (first_any _).mono ?_
  rintro _ w2 ⟨rfl, hb⟩
  have HB2 := Lib.hid (HB1.out.trans (hb.mono HB1.out.size))
  clear hb
  go_wp2
  go_ret
  exact ⟨rfl, HB2.out⟩
theorem clockTicks_walk (w : World) (A0 : Option Addr) (len0 cap0 : Nat) (S0 : Sh.ok w (Sh.slice 1 (Sh.int .i64)) [.slice A0 len0 cap0]) :
    Calls Try.prog 4 #[.slice A0 len0 cap0] w fun e w' => e = .returned (.bool true) ∧ Below w.heap.size w w' := by
  obtain ⟨b, off, xs, hl, hm, hA⟩ := ints_of S0
  by_cases hlen : 100 < len0
  · exact ticks_big w A0 len0 cap0 hlen
  · exact ticks_in w A0 len0 cap0 b off xs hl hm (by omega) hA
end Go.Proofs.Ytchjgojagmhpeaa
