/- ClockDue: its walk. -/
import Derived.Test.YtchjgojagmhpeaaSf
import Derived.Test.YtchjgojagmhpeaaSt
import Derived.Deep.QuietTactic
import Derived.BigQuiet
namespace Go.Proofs.Ytchjgojagmhpeaa
open Go.RowKit Go.Maps
open Go.ChangeShapes Go.ChangeAt
set_option linter.unusedVariables false
set_option linter.unusedSimpArgs false
set_option maxRecDepth 100000
attribute [local go_sem ↓] Go.wp_at_zero Go.wp_at_succ
theorem Ls.drewN {w : World} {A : Option Addr} {cap g : Nat} {ys : List Int} (h : Ls w A cap g ys) (m : Nat) : Ls (w.drewN m) A cap g ys := ⟨h.get⟩
theorem due_at {D : MD} {now x : Int} (h : dueB D now x = true) : ∃ v, al D x = some v ∧ tm D x = v ∧ v ≤ now := by
  unfold dueB at h
  cases ha : al D x with
  | none => rw [ha] at h; cases h
  | some v => rw [ha] at h; exact ⟨v, rfl, by unfold tm; rw [ha]; rfl, of_decide_eq_true h⟩
theorem all_step (HS : SortOK) (HN : SortNil) {w0 w : World} {R b n : Nat} {now : Int} {D : MD} (h : Cs w0 w R b now n D) (hn : n ≤ 1000000) : Calls Try.prog 21 #[.pointer (some ⟨R, 0, none⟩)] w fun e w' => ∃ A cap g ys, e = .returned (.slice A ys.length cap) ∧ Ls w' A cap g ys ∧ ys.Pairwise (ahd D) ∧ (∀ x, wf x → (x ∈ ys ↔ dueB D now x = true)) ∧ (∀ x ∈ ys, wf x) ∧ ys.length ≤ n ∧ Cs w0 w' R b now n D ∧ Below w.heap.size w w' :=
  (all_any HS HN h.clk hn).mono fun _ _ ⟨A, cap, g, ys, h1, h2, h3, h4, h5, h6, h7⟩ => ⟨A, cap, g, ys, h1, h2, h3, h4, h5, h6, ⟨h.clk.kept h7, h.geR, h.geb, h.bel.trans (h7.mono h.bel.size)⟩, h7⟩
set_option maxHeartbeats 8000000 in
theorem due_in (HS : SortOK) (HN : SortNil) (w : World) (A : Option Addr) (len cap blk off : Nat) (xs : Nat → Int × Int × Int) (hl : len ≤ cap) (hm : cap ≤ maxLen) (hlen : len ≤ 100) (hA : Acts w A len blk off xs) :
    Calls Try.prog 5 #[.slice A len cap] w fun e w' => e = .returned (.bool true) ∧ Below w.heap.size w w' := by
  have HA := Lib.hid hA
  have HSO := Lib.hid HS
  have HNO := Lib.hid HN
  have hl2 : ¬ (len : Int) > 100 := by omega
  clear hA HS HN
  unfold maxLen at hm
  go_enter Try.func5, Try.ntmps5
  go_wp2_with fail
  refine (first_any _).mono ?_
  rintro _ w1 ⟨rfl, hb⟩
  have HB1 := Lib.hid hb
  clear hb
  go_wp2_with fail
  refine (new_any _).mono ?_
  rintro _ w2 ⟨R, b, rfl, h1, h2, h3, h4⟩
  have HC := Lib.hid (show Cs w w2 R b 0 0 (.map []) from ⟨h1, Nat.le_trans HB1.out.size h2, Nat.le_trans HB1.out.size h3, HB1.out.trans (h4.mono HB1.out.size)⟩)
  clear h1 h2 h3 h4
  go_wp2_with fail
  go_loopw [4] (fun i wr => ∃ k : Nat, k ≤ len ∧ i = .int .i64 (k : Int) ∧ ∃ (now : Int) (n : Nat) (D : MD), 0 ≤ now ∧ now ≤ 1099511627776 ∧ n ≤ k ∧ Cs w wr R b now n D) (fun i _ => len - (intOf i).toNat)
  case atStart => exact ⟨0, Nat.zero_le _, rfl, 0, 0, _, by omega, by omega, by omega, HC.out⟩
  case round =>
    obtain ⟨k, hk, rfl, now, n, D, r1, r2, r3, hc⟩ := hrel
    have HCC := Lib.hid hc
    by_cases hlt : k < len
    · obtain ⟨c0, c1, c2, f1, f2⟩ := (HA.out.keep hc.bel).2 k hlt
      obtain rfl := (HA.out.1 (by omega)).1
      have HX := Lib.hid (fun w' (h : Below w.heap.size w w') => (HA.out.keep h).2 k hlt)
      obtain ⟨op, hop⟩ : ∃ op, op = (xs k).1 := ⟨_, rfl⟩
      obtain ⟨x, hx⟩ : ∃ x, x = (xs k).2.1 := ⟨_, rfl⟩
      obtain ⟨y, hy⟩ : ∃ y, y = (xs k).2.2 := ⟨_, rfl⟩
      rw [← hop] at c0 HX
      rw [← hx] at c1 f1 HX
      rw [← hy] at c2 f2 HX
      have F1 := Lib.hid f1
      have F2 := Lib.hid f2
      clear hop hx hy hc f1 f2
      by_cases o0 : op = 0
      · subst o0
        by_cases ht : 0 ≤ y ∧ y ≤ 1099511627776 - now
        · obtain ⟨z1, z2⟩ := ht
          go_wp2_with (first
            | (go_at_call 9
               (with_reducible refine (cs_yes HCC.out (by omega) y (now + y) z1 z2 rfl).mono ?_)
               rintro _ w3 ⟨rfl, h1⟩
               have HC3 := Lib.hid h1
               clear h1)
            | fail)
          exact ⟨⟨k + 1, by omega, by go_num, now + y, n, D, by omega, by omega, by omega, HC3.out⟩, by simp [intOf]; omega⟩
        · have ht2 : y < 0 ∨ 1099511627776 - now < y := by omega
          have HT := Lib.hid ht2
          clear ht ht2
          go_wp2_with (first
            | (go_at_call 9
               (with_reducible refine (cs_no HCC.out ⟨r1, r2⟩ y HT.out).mono ?_)
               rintro _ w3 ⟨rfl, hw⟩
               replace hw := hw.symm
               subst hw)
            | fail)
          exact ⟨⟨k + 1, by omega, by go_num, now, n, D, by omega, by omega, by omega, HCC.out⟩, by simp [intOf]; omega⟩
      · have o0' : (op == 0) = false := by simpa using o0
        by_cases o1 : op = 1
        · subst o1
          go_wp2_with fail
          have c1d : wr.drew.cell? ⟨blk, off + k * 3 + 1, none⟩ = some (.int .i64 x) := c1
          have c2d : wr.drew.cell? ⟨blk, off + k * 3 + 2, none⟩ = some (.int .i64 y) := c2
          have HCD := Lib.hid (show Cs w wr.drew R b now n D from HCC.out.drewN 1)
          go_region_held3 (fun w' => w'.cell? ⟨blk, off + k * 3 + 1, none⟩ = some (.int .i64 x) ∧ w'.cell? ⟨blk, off + k * 3 + 2, none⟩ = some (.int .i64 y)) (refine ⟨?_, ?_⟩ <;> assumption) (first
            | (go_at_call 11
               (with_reducible refine (cs_set HCD.out (by omega) x y F1.out F2.out).mono ?_)
               rintro _ w3 ⟨rfl, h1⟩
               have HC3 := Lib.hid h1
               obtain ⟨e0, e1, e2, _⟩ := HX.out _ h1.bel
               clear h1))
          all_goals (
            go_wp2_with fail
            exact ⟨⟨k + 1, by omega, by go_num, now, n + 1, _, by omega, by omega, by omega, HC3.out⟩, by simp [intOf]; omega⟩)
        · have o1' : (op == 1) = false := by simpa using o1
          go_wp2_with (first
            | (go_at_call 13
               (with_reducible refine (cs_drop HCC.out x F1.out _ rfl).mono ?_)
               rintro _ w3 ⟨rfl, h1⟩
               have HC3 := Lib.hid h1
               clear h1)
            | fail)
          exact ⟨⟨k + 1, by omega, by go_num, now, n, _, by omega, by omega, by omega, HC3.out⟩, by simp [intOf]; omega⟩
    · obtain rfl : k = len := by omega
      clear hc hlt
      go_wp2_with fail
      refine (all_step HSO.out HNO.out HCC.out (by omega)).mono ?_
      rintro _ w5 ⟨Al, capl, g, ys, rfl, h1, h2, h3, h4, h5, h6, h7⟩
      have HL := Lib.hid h1
      have HPW := Lib.hid h2
      have HME := Lib.hid h3
      have HWF := Lib.hid h4
      have HC5 := Lib.hid h6
      have hy100 : ys.length ≤ 100 := by omega
      clear h1 h2 h3 h4 h6 h7
      go_wp2_with fail
      go_loopw [6] (fun i wr5 => ∃ j : Nat, j ≤ ys.length ∧ i = .int .i64 (j : Int) ∧ ∃ m, wr5 = w5.drewN m) (fun i _ => ys.length - (intOf i).toNat)
      case atStart => exact ⟨0, Nat.zero_le _, rfl, 0, by simp [World.drewN_zero]⟩
      case round =>
        obtain ⟨j, hj, rfl, m, rfl⟩ := hrel
        by_cases hjl : j < ys.length
        · obtain ⟨y, hy⟩ : ∃ y, ys[j]? = some y := ⟨ys[j], List.getElem?_eq_getElem hjl⟩
          have hmem : y ∈ ys := List.mem_of_getElem? hy
          have hwy := HWF.out y hmem
          have hd := (HME.out y hwy).1 hmem
          obtain ⟨v, ha, ht, hvn⟩ := due_at hd
          obtain ⟨rfl, hcp, hcell⟩ := HL.out.get j y hy
          have hcm : (w5.drewN m).cell? ⟨g, j, none⟩ = some (.int .i64 y) := hcell
          have HCm := Lib.hid (HC5.out.drewN m)
          have HAT := Lib.hid (show Calls Try.prog 15 #[.pointer (some ⟨R, 0, none⟩), .int .i64 y] (w5.drewN m) fun e w' => e = .returned (.tuple #[.int .i64 v, .bool true]) ∧ w' = (w5.drewN m) from by
            have := at_any HCm.out.clk y hwy
            rw [ha] at this
            exact this)
          have HNW := Lib.hid (now_any HCm.out.clk)
          have HDU := Lib.hid (cs_due HCm.out y hwy true hd)
          have hjI : (j : Int) < (ys.length : Int) := by omega
          have hvI : ¬ now < v := by omega
          clear hmem hd
          by_cases hj0 : j = 0
          · subst hj0
            go_wp2_with (first
              | (go_at_call 15; (with_reducible refine (HAT.out).mono ?_); rintro _ x1 ⟨rfl, hw⟩; replace hw := hw.symm; subst hw)
              | (go_at_call 17; (with_reducible refine (HNW.out).mono ?_); rintro _ x1 ⟨rfl, hw⟩; replace hw := hw.symm; subst hw)
              | (go_at_call 18; (with_reducible refine (HDU.out).mono ?_); rintro _ x1 ⟨rfl, hw⟩; replace hw := hw.symm; subst hw)
              | fail)
            go_roundw
            case rel => exact ⟨1, by omega, by go_num, m, rfl⟩
            case measure => simp [intOf]; omega
          · obtain ⟨i, rfl⟩ : ∃ i, j = i + 1 := ⟨j - 1, by omega⟩
            obtain ⟨z, hz⟩ : ∃ z, ys[i]? = some z := ⟨ys[i]'(by omega), List.getElem?_eq_getElem (by omega)⟩
            have hmz : z ∈ ys := List.mem_of_getElem? hz
            have hwz := HWF.out z hmz
            have hdz := (HME.out z hwz).1 hmz
            obtain ⟨u, haz, htz, _⟩ := due_at hdz
            obtain ⟨_, _, hcz⟩ := HL.out.get i z hz
            have hczm : (w5.drewN m).cell? ⟨g, i, none⟩ = some (.int .i64 z) := hcz
            have HAZ := Lib.hid (show Calls Try.prog 15 #[.pointer (some ⟨R, 0, none⟩), .int .i64 z] (w5.drewN m) fun e w' => e = .returned (.tuple #[.int .i64 u, .bool true]) ∧ w' = (w5.drewN m) from by
              have := at_any HCm.out.clk z hwz
              rw [haz] at this
              exact this)
            have hah : ahd D z y := by
              have h1 := List.pairwise_iff_getElem.1 HPW.out i (i + 1) (by omega) hjl (by omega)
              rw [List.getElem?_eq_getElem (by omega)] at hz
              rw [List.getElem?_eq_getElem hjl] at hy
              rw [← Option.some.inj hz, ← Option.some.inj hy]
              exact h1
            unfold ahd at hah
            rw [ht, htz] at hah
            clear hmz hdz hcz hcell ha haz hy hz
            have hiI : (i : Int) < (ys.length : Int) := by omega
            rcases hah with hah | ⟨hah1, hah2⟩
            · have d1 : decide (v < u) = false := decide_eq_false (by omega)
              have d2 : (u == v) = false := by simp; omega
              go_wp2_with (first
                | (go_at_call 15; (with_reducible refine (HAT.out).mono ?_); rintro _ x1 ⟨rfl, hw⟩; replace hw := hw.symm; subst hw; clear HAT)
                | (go_at_call 15; (with_reducible refine (HAZ.out).mono ?_); rintro _ x1 ⟨rfl, hw⟩; replace hw := hw.symm; subst hw; clear HAZ)
                | (go_at_call 17; (with_reducible refine (HNW.out).mono ?_); rintro _ x1 ⟨rfl, hw⟩; replace hw := hw.symm; subst hw)
                | (go_at_call 18; (with_reducible refine (HDU.out).mono ?_); rintro _ x1 ⟨rfl, hw⟩; replace hw := hw.symm; subst hw)
                | fail)
              go_quiet (fail)
              go_wp2
              go_roundw
              case rel => exact ⟨i + 2, by omega, by go_num, _, rfl⟩
              case measure => simp [intOf]; omega
            · have d1 : decide (v < u) = false := decide_eq_false (by omega)
              have d2 : (u == v) = true := by simp; omega
              clear hah1
              have d3 : decide (y ≤ z) = false := decide_eq_false (by omega)
              have ws : IntKind.i64.wrap ((i : Int) + 1 - 1) = (i : Int) := by rw [IntWalk.i64_in _ (by omega)]; omega
              have ws2 : IntKind.i64.wrap (i : Int) = (i : Int) := IntWalk.i64_in _ (by omega)
              have i0 : (0 : Int) ≤ (i : Int) := by omega
              have i1 : (0 : Int) ≤ (i : Int) + 1 := by omega
              have i2 : (i : Int) + 1 < (ys.length : Int) := by omega
              go_wp2_with (first
                | (go_at_call 15; (with_reducible refine (HAT.out).mono ?_); rintro _ x1 ⟨rfl, hw⟩; replace hw := hw.symm; subst hw; clear HAT)
                | (go_at_call 15; (with_reducible refine (HAZ.out).mono ?_); rintro _ x1 ⟨rfl, hw⟩; replace hw := hw.symm; subst hw; clear HAZ)
                | (go_at_call 17; (with_reducible refine (HNW.out).mono ?_); rintro _ x1 ⟨rfl, hw⟩; replace hw := hw.symm; subst hw)
                | (go_at_call 18; (with_reducible refine (HDU.out).mono ?_); rintro _ x1 ⟨rfl, hw⟩; replace hw := hw.symm; subst hw)
                | fail)
              have cz : (w5.drewN m).drew.cell? ⟨g, i, none⟩ = some (.int .i64 z) := hczm
              have cy : (w5.drewN m).drew.cell? ⟨g, i + 1, none⟩ = some (.int .i64 y) := hcm
              go_region_held3 (fun wr => wr.cell? ⟨g, i, none⟩ = some (.int .i64 z) ∧ wr.cell? ⟨g, i + 1, none⟩ = some (.int .i64 y)) (exact ⟨cz, cy⟩) (fail)
              go_wp2
              go_roundw
              case rel => exact ⟨i + 2, by omega, by go_num, _, rfl⟩
              case measure => simp [intOf]; omega
        · obtain rfl : j = ys.length := by omega
          go_wp2
          go_loopw [11] (fun i wr5 => ∃ q : Nat, q ≤ k ∧ i = .int .i64 (q : Int) ∧ ∃ m, wr5 = w5.drewN m) (fun i _ => k - (intOf i).toNat)
          case atStart => exact ⟨0, Nat.zero_le _, rfl, m, rfl⟩
          case round =>
            obtain ⟨q, hq, rfl, m3, rfl⟩ := hrel
            by_cases hql : q < k
            · have HCm := Lib.hid (HC5.out.drewN m3)
              obtain ⟨_, c1, _, f1, _⟩ := (HA.out.keep HCm.out.bel).2 q hql
              obtain rfl := (HA.out.1 (by omega)).1
              obtain ⟨x, hx⟩ : ∃ x, x = (xs q).2.1 := ⟨_, rfl⟩
              rw [← hx] at c1 f1
              have c1b : ∀ m', (w5.drewN m').cell? ⟨blk, off + q * 3 + 1, none⟩ = some (.int .i64 x) := fun m' => c1
              have C1 := Lib.hid c1b
              have F1 := Lib.hid f1
              obtain ⟨dB, hdB⟩ : ∃ d, dueB D now x = d := ⟨_, rfl⟩
              have HIN := Lib.hid (show ys.contains x = dB from by
                rw [← hdB, Bool.eq_iff_iff, List.contains_iff_mem]
                exact HME.out x F1.out)
              have HNW := Lib.hid (fun m' => now_any (HC5.out.drewN m').clk)
              have HDU := Lib.hid (fun m' => cs_due (HC5.out.drewN m') x F1.out dB hdB)
              have hqI : (q : Int) < (k : Int) := by omega
              clear c1b hx f1
              obtain ⟨vv, ok, HAT, hok⟩ : ∃ vv ok, Hid (∀ m', Calls Try.prog 15 #[.pointer (some ⟨R, 0, none⟩), .int .i64 x] (w5.drewN m') fun e w' => e = .returned (.tuple #[.int .i64 vv, .bool ok]) ∧ w' = w5.drewN m') ∧ ((ok = false ∧ dB = false) ∨ (ok = true ∧ vv ≤ now ∧ dB = true) ∨ (ok = true ∧ ¬ vv ≤ now ∧ dB = false)) := by
                refine ⟨(al D x).getD 0, (al D x).isSome, Lib.hid (fun m' => at_any (HC5.out.drewN m').clk x F1.out), ?_⟩
                unfold dueB at hdB
                cases ha : al D x with
                | none => rw [ha] at hdB; exact .inl ⟨rfl, hdB.symm⟩
                | some v =>
                  rw [ha] at hdB
                  by_cases hv : v ≤ now
                  · exact .inr (.inl ⟨rfl, hv, hdB.symm.trans (decide_eq_true hv)⟩)
                  · exact .inr (.inr ⟨rfl, hv, hdB.symm.trans (decide_eq_false hv)⟩)
              have HOK := Lib.hid hok
              clear hdB hok
              go_wp2_with (first | (go_at_call 15; (with_reducible refine (HAT.out _).mono ?_); rintro _ x1 ⟨rfl, hw⟩; replace hw := hw.symm; subst hw) | fail)
              go_loopw [14, 15] (fun a i wr6 => ∃ j : Nat, j ≤ ys.length ∧ i = .int .i64 (j : Int) ∧ a = .bool ((ys.take j).contains x) ∧ ∃ m, wr6 = w5.drewN m) (fun _ i _ => ys.length - (intOf i).toNat)
              case atStart => exact ⟨0, Nat.zero_le _, rfl, by simp, m3, rfl⟩
              case round =>
                obtain ⟨j, hj, rfl, rfl, m4, rfl⟩ := hrel
                by_cases hjl : j < ys.length
                · obtain ⟨y, hy⟩ : ∃ y, ys[j]? = some y := ⟨ys[j], List.getElem?_eq_getElem hjl⟩
                  obtain ⟨rfl, hcp, hcell⟩ := HL.out.get j y hy
                  have HST := Lib.hid (show (ys.take (j + 1)).contains x = ((ys.take j).contains x || (y == x)) from by
                    rw [List.take_add_one, hy]
                    simp only [Option.toList_some, List.contains_eq_any_beq, List.any_append, List.any_cons, List.any_nil, Bool.or_false]
                    congr 1
                    exact Bool.beq_comm)
                  have hjI : (j : Int) < (ys.length : Int) := by omega
                  have cyd : (w5.drewN m4).drew.cell? ⟨g, j, none⟩ = some (.int .i64 y) := hcell
                  have cxd : (w5.drewN m4).drew.cell? ⟨blk, off + q * 3 + 1, none⟩ = some (.int .i64 x) := C1.out m4
                  obtain ⟨a, ha⟩ : ∃ a, (ys.take j).contains x = a := ⟨_, rfl⟩
                  rw [ha] at HST ⊢
                  clear hy hcell ha
                  cases a with
                  | true =>
                    go_wp2
                    go_quiet (fail)
                    go_wp2
                    go_roundw
                    case rel => exact ⟨j + 1, by omega, by go_num, by rw [HST.out]; rfl, _, rfl⟩
                    case measure => simp [intOf]; omega
                  | false =>
                    obtain ⟨e, he⟩ : ∃ e, (y == x) = e := ⟨_, rfl⟩
                    rw [he] at HST
                    go_wp2
                    go_region_held3 (fun wr => wr.cell? ⟨g, j, none⟩ = some (.int .i64 y) ∧ wr.cell? ⟨blk, off + q * 3 + 1, none⟩ = some (.int .i64 x)) (exact ⟨cyd, cxd⟩) (fail)
                    go_wp2
                    go_roundw
                    case rel => exact ⟨j + 1, by omega, by go_num, by rw [HST.out]; simp [he], _, rfl⟩
                    case measure => simp [intOf]; omega
                · obtain rfl : j = ys.length := by omega
                  have HI2 := Lib.hid (show (ys.take ys.length).contains x = dB from by rw [List.take_length]; exact HIN.out)
                  rw [HI2.out]
                  have cxm : (w5.drewN m4).cell? ⟨blk, off + q * 3 + 1, none⟩ = some (.int .i64 x) := C1.out m4
                  have H3 := HOK.out
                  rcases H3 with ⟨rfl, rfl⟩ | ⟨rfl, hv, rfl⟩ | ⟨rfl, hv, rfl⟩
                  all_goals (
                    go_wp2_with (first | (go_at_call 17; (with_reducible refine (HNW.out _).mono ?_); rintro _ x1 ⟨rfl, hw⟩; replace hw := hw.symm; subst hw) | (go_at_call 18; (with_reducible refine (HDU.out _).mono ?_); rintro _ x1 ⟨rfl, hw⟩; replace hw := hw.symm; subst hw) | fail)
                    go_roundw
                    case rel => exact ⟨q + 1, by omega, by go_num, m4, rfl⟩
                    case measure => simp [intOf]; omega)
            · obtain rfl : q = k := by omega
              go_wp2
              go_ret
              exact ⟨rfl, (HC5.out.drewN m3).bel⟩
end Go.Proofs.Ytchjgojagmhpeaa
