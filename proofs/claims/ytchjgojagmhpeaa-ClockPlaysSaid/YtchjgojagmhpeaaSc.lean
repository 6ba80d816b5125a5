/- The clock's order of alarms: what is compared. -/
import Derived.Test.YtchjgojagmhpeaaCa
import Derived.Deep.RegionHeld3
import Derived.Deep.DrawnRows
namespace Go.Proofs.Ytchjgojagmhpeaa
open Go.RowKit Go.Maps
open Go.WideElems (rg Fit)
open Go.ChangeMaps Go.MapKept
set_option linter.unusedVariables false
set_option linter.unusedSimpArgs false
set_option maxRecDepth 20000
attribute [local go_sem ↓] Go.wp_at_zero Go.wp_at_succ
def c3 (x y : Int) : Int := if x < y then -1 else if y < x then 1 else 0
theorem isnan_any (x : Int) (w : World) : Calls Try.prog 29 #[.int .i64 x] w fun e w' => e = .returned (.bool false) ∧ w' = w := by
  go_enter Try.func29, Try.ntmps29
  go_wp2
  go_ret
  exact ⟨rfl, rfl⟩
theorem compare_any (x y : Int) (w : World) : Calls Try.prog 26 #[.int .i64 x, .int .i64 y] w fun e w' => e = .returned (.int .i64 (c3 x y)) ∧ w' = w := by
  by_cases h1 : x < y
  · have H0 := Lib.hid (show c3 x y = -1 by unfold c3; rw [if_pos h1])
    go_enter Try.func26, Try.ntmps26
    go_wp2_with (go_at_call 29; (with_reducible refine (isnan_any _ _).mono ?_); rintro e w1 ⟨rfl, hw⟩; replace hw := hw.symm; subst hw)
    go_ret
    exact ⟨by rw [H0.out]; rfl, rfl⟩
  · by_cases h2 : y < x
    · have H0 := Lib.hid (show c3 x y = 1 by unfold c3; rw [if_neg h1, if_pos h2])
      go_enter Try.func26, Try.ntmps26
      go_wp2_with (go_at_call 29; (with_reducible refine (isnan_any _ _).mono ?_); rintro e w1 ⟨rfl, hw⟩; replace hw := hw.symm; subst hw)
      go_ret
      exact ⟨by rw [H0.out]; rfl, rfl⟩
    · have H0 := Lib.hid (show c3 x y = 0 by unfold c3; rw [if_neg h1, if_neg h2])
      go_enter Try.func26, Try.ntmps26
      go_wp2_with (go_at_call 29; (with_reducible refine (isnan_any _ _).mono ?_); rintro e w1 ⟨rfl, hw⟩; replace hw := hw.symm; subst hw)
      go_ret
      exact ⟨by rw [H0.out]; rfl, rfl⟩
theorem or_any (u v : Int) (g : Nat) (w : World) (h0 : w.cell? ⟨g, 0, none⟩ = some (.int .i64 u)) (h1 : w.cell? ⟨g, 1, none⟩ = some (.int .i64 v)) : Calls Try.prog 25 #[.slice (some ⟨g, 0, none⟩) 2 2] w fun e w' => e = .returned (.int .i64 (if u ≠ 0 then u else v)) ∧ w' = w := by
  obtain ⟨r, hr⟩ : ∃ r, (if u ≠ 0 then u else v) = r := ⟨_, rfl⟩
  rw [hr]
  have HR := Lib.hid hr
  clear hr
  by_cases hu : u = 0
  · subst hu
    have H1 := Lib.hid (show v = r from HR.out)
    by_cases hv : v = 0
    · subst hv
      go_enter Try.func25, Try.ntmps25
      go_wp2
      go_rounds 3
      go_ret
      exact ⟨by rw [← H1.out]; rfl, rfl⟩
    · have dv : (v == 0) = false := by simpa using hv
      go_enter Try.func25, Try.ntmps25
      go_wp2
      go_rounds 3
      go_ret
      exact ⟨by rw [← H1.out]; rfl, rfl⟩
  · have H1 := Lib.hid (show u = r by rw [← HR.out, if_pos hu])
    have du : (u == 0) = false := by simpa using hu
    go_enter Try.func25, Try.ntmps25
    go_wp2
    go_rounds 2
    go_ret
    exact ⟨by rw [← H1.out]; rfl, rfl⟩
section
variable {w : World} {R b n : Nat} {now : Int} {D : MD}
/-- 'm[k]'. -/
theorem look_no (h : w.ownsMap Try.prog 3 PE b n D) {x : Int} (hx : wf x) :
    (Instr.lookup 43 (.map (some b)) (.int .i64 x) false).run Try.prog w = .ok (.int .i64 ((al D x).getD 0)) w := by
  obtain ⟨es, clock, hb, F, hs, rfl⟩ := h
  rcases fit_look false K3 Try.underlying43 (zero3 w) hb F (key3 hx) with ⟨h1, _, h2⟩ | ⟨e0, y, _, _, h1, h2, h3, _⟩
  · have ha : al (DataW.map ((es.toList.map (rg Try.prog 3 PE)).foldr DataW.insert [])) x = none := by unfold al; rw [h2]
    rw [ha]
    exact h1
  · obtain ⟨c, hc, rfl, hw⟩ := plainElem_int_inv Try.underlying3 h2
    have ha : al (DataW.map ((es.toList.map (rg Try.prog 3 PE)).foldr DataW.insert [])) x = some c := by unfold al; rw [h3]
    rw [ha]
    rw [hc] at h1
    exact h1
end
def tm (D : MD) (x : Int) : Int := (al D x).getD 0
def cfI (D : MD) (x y : Int) : Int := if c3 (tm D x) (tm D y) ≠ 0 then c3 (tm D x) (tm D y) else c3 x y
theorem Clk.alloc {w : World} {R b n : Nat} {now : Int} {D : MD} (h : Clk w R b now n D) (o : Obj) : Clk (w.alloc o) R b now n D := h.kept ((Below.refl _ _).alloc (Nat.le_refl _) o)
set_option maxHeartbeats 8000000 in
theorem closure_any {w : World} {R b n B : Nat} {now : Int} {D : MD} (h : Clk w R b now n D) (hB : w.cell? ⟨B, 0, none⟩ = some (.pointer (some ⟨R, 0, none⟩))) (x y : Int) (hx : wf x) (hy : wf y) :
    Calls Try.prog 24 #[.int .i64 x, .int .i64 y, .pointer (some ⟨B, 0, none⟩)] w fun e w' => e = .returned (.int .i64 (cfI D x y)) ∧ ∃ q o, w' = (w.drewN q).alloc o := by
  have hBl : B < w.heap.size := cell_lt hB
  obtain ⟨r, hr⟩ : ∃ r, cfI D x y = r := ⟨_, rfl⟩
  have HR := Lib.hid (show (if c3 (tm D x) (tm D y) ≠ 0 then c3 (tm D x) (tm D y) else c3 x y) = r from hr)
  rw [hr]
  have HS : Hid (∀ wr, Clk wr R b now n D → wr.cell? ⟨B, 0, none⟩ = some (.pointer (some ⟨R, 0, none⟩)) → (wr.cell? ⟨B, 0, none⟩ = some (.pointer (some ⟨R, 0, none⟩)) ∧ wr.cell? ⟨R, 1, none⟩ = some (.map (some b)) ∧ (Instr.lookup 43 (.map (some b)) (.int .i64 x) false).run Try.prog wr = .ok (.int .i64 (tm D x)) wr ∧ (Instr.lookup 43 (.map (some b)) (.int .i64 y) false).run Try.prog wr = .ok (.int .i64 (tm D y)) wr)) :=
    Lib.hid fun wr h hB => ⟨hB, h.c1, look_no h.own hx, look_no h.own hy⟩
  have HC := Lib.hid (h.drewN 1)
  have HB := Lib.hid (show (w.drewN 1).cell? ⟨B, 0, none⟩ = some (.pointer (some ⟨R, 0, none⟩)) from hB)
  have HBa := Lib.hid (fun o => show ((w.drewN 1).alloc o).cell? ⟨B, 0, none⟩ = some (.pointer (some ⟨R, 0, none⟩)) from ((Below.refl w.heap.size (w.drewN 1)).alloc (Nat.le_refl _) o).cell (p := ⟨B, 0, none⟩) hBl |>.trans hB)
  obtain ⟨s, hs⟩ : ∃ s, tm D x = s := ⟨_, rfl⟩
  obtain ⟨t, ht⟩ : ∃ t, tm D y = t := ⟨_, rfl⟩
  rw [hs, ht] at HR HS
  have HO := Lib.hid (fun (g : Nat) (w : World) (h0 : w.cell? ⟨g, 0, none⟩ = some (.int .i64 (c3 s t))) (h1 : w.cell? ⟨g, 1, none⟩ = some (.int .i64 (c3 x y))) => (show Calls Try.prog 25 #[.slice (some ⟨g, 0, none⟩) 2 2] w fun e w' => e = .returned (.int .i64 r) ∧ w' = w from HR.out ▸ or_any (c3 s t) (c3 x y) g w h0 h1))
  clear h hs ht hr hx hy hB HR
  go_enter Try.func24, Try.ntmps24
  go_wp2
  go_region_held3 (fun wr => wr.cell? ⟨B, 0, none⟩ = some (.pointer (some ⟨R, 0, none⟩)) ∧ wr.cell? ⟨R, 1, none⟩ = some (.map (some b)) ∧ (Instr.lookup 43 (.map (some b)) (.int .i64 x) false).run Try.prog wr = .ok (.int .i64 s) wr ∧ (Instr.lookup 43 (.map (some b)) (.int .i64 y) false).run Try.prog wr = .ok (.int .i64 t) wr) (first | exact HS.out _ HC.out HB.out | exact HS.out _ (HC.out.alloc _) (HBa.out _)) (first
    | (go_at_call 26; (with_reducible refine (compare_any _ _ _).mono ?_); rintro e w1 ⟨rfl, hw⟩; replace hw := hw.symm; subst hw)
    | (go_at_call 25; refine (HO.out w.heap.size _ ((Blk.new (w.drewN 1) 3 #[.int .i64 (c3 s t), .int .i64 (c3 x y)]).cell 0) ((Blk.new (w.drewN 1) 3 #[.int .i64 (c3 s t), .int .i64 (c3 x y)]).cell 1)).mono ?_; rintro e w1 ⟨rfl, hw⟩; replace hw := hw.symm; subst hw))
  all_goals (
    go_wp2
    go_ret
    exact ⟨rfl, 1, _, rfl⟩)
end Go.Proofs.Ytchjgojagmhpeaa
