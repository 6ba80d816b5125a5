/- The registry: New, Find, Add, Remove, Load, walked. -/
import Derived.Test.YtlfjhbfhnlclpaaJc
import Derived.Deep.RegionHeld3
import Derived.Deep.QuietTactic
import Derived.Deep.RegionWith
import Derived.BigQuiet
namespace Go.Proofs.Ytlfjhbfhnlclpaa
open Go.RowKit
open Go.Lib
set_option linter.unusedVariables false
set_option linter.unusedSimpArgs false
set_option maxRecDepth 100000
section
variable {w : World} {r M c : Nat} {n : Int} {E : List (Int × Nat)} {L : LN}
theorem shard_m (h : Rgs w r M n E L c) (k : ByteArray) (hk : k.size ≤ 1000000) : Calls Try.prog 28 #[.pointer (some ⟨r, 0, none⟩), .string k] w fun e w' => e = .returned (.int .i64 (shd n k)) ∧ w' = w := by
  have c0 := h.box.cell 0
  simp only [List.getElem?_toArray, List.getElem?_cons_zero] at c0
  have HS := Lib.hid (shard_some k n w (by unfold maxLen; omega) h.n1 h.n2)
  clear h
  go_enter Try.func28, Try.ntmps28
  go_wp2_with fail
  refine HS.out.mono ?_
  rintro _ wz ⟨rfl, hw0⟩
  replace hw0 := hw0.symm
  subst hw0
  go_wp2
  go_ret
  exact ⟨rfl, rfl⟩
theorem shd_wf (h : Rgs w r M n E L c) (k : ByteArray) : wf (shd n k) := by
  have h1 := shd_rng n k h.n1
  have h2 := h.n2
  exact wf_mk (by omega) (by omega)
theorem vm_one {W : World} {b : Nat} {D D2 : VD} (h : Vm W b D) (k : Vm W b D2) : D = D2 := by
  obtain ⟨es, cl, h1, _, h2, _⟩ := h
  obtain ⟨es2, cl2, k1, _, k2, _⟩ := k
  rw [h1] at k1
  cases k1
  rw [h2, k2]
theorem zeroP (w : World) : (zeroValue 51).run Try.prog w = .ok (.pointer none) w := by kernel_rfl
theorem look_of (h : Rgs w r M n E L c) {s : Int} (hs : wf s) {o : Option Nat} (ho : lkS s E = o) :
    (Instr.lookup 43 (.map (some M)) (.int .i64 s) true).run Try.prog w = .ok (.tuple #[(o.map ptr).getD (.pointer none), .bool o.isSome]) w ∧ (Instr.lookup 43 (.map (some M)) (.int .i64 s) false).run Try.prog w = .ok ((o.map ptr).getD (.pointer none)) w := by
  obtain ⟨D, h1, h2, _⟩ := h.map
  have := h1.look Try.underlying43 (zeroP w) hs
  rw [h2, ho] at this
  cases o <;> exact this
def findO (k : ByteArray) (L : LN) : Int := (getL k L).getD (-1)
set_option maxHeartbeats 2000000 in
theorem find_any (h : Rgs w r M n E L c) (k : ByteArray) (hk : k.size ≤ 1000000) (v : Int) (hv : findO k L = v) : Calls Try.prog 16 #[.pointer (some ⟨r, 0, none⟩), .string k] w fun e w' => e = .returned (.int .i64 v) ∧ w' = w.drewN 1 := by
  subst hv
  have c1 : w.drew.cell? ⟨r, 1, none⟩ = some (.map (some M)) := h.box.cell 1
  obtain ⟨o, ho⟩ : ∃ o, lkS (shd n k) E = o := ⟨_, rfl⟩
  have hlk := (look_of h.drew (shd_wf h k) ho).1
  have HSH := Lib.hid (shard_m h.drew k hk)
  obtain ⟨s, hs⟩ : ∃ s, shd n k = s := ⟨_, rfl⟩
  have HG := Lib.hid (h.drew.get k)
  rw [hs] at hlk HSH ho HG
  have HO := Lib.hid ho
  clear h ho hs
  cases o with
  | none =>
    have HN := Lib.hid (HG.out.1 HO.out)
    simp only [Option.map_none, Option.getD_none, Option.isSome_none] at hlk
    go_enter Try.func16, Try.ntmps16
    go_wp2_with fail
    go_region_held3 (fun w' => w'.cell? ⟨r, 1, none⟩ = some (.map (some M)) ∧ (Instr.lookup 43 (.map (some M)) (.int .i64 s) true).run Try.prog w' = .ok (.tuple #[.pointer none, .bool false]) w') (first | exact ⟨c1, hlk⟩) (first
      | (go_at_call 28
         (with_reducible refine (HSH.out).mono ?_)
         rintro _ wz ⟨rfl, hw0⟩
         replace hw0 := hw0.symm
         subst hw0)
      | fail)
    all_goals (
      go_wp2
      go_ret
      exact ⟨by unfold findO; rw [HN.out]; rfl, rfl⟩)
  | some g =>
    obtain ⟨ho1, ho2⟩ := HG.out.2 g HO.out
    obtain ⟨u, hu⟩ : ∃ u, getL k L = u := ⟨_, rfl⟩
    have HGT := Lib.hid (ON.om_get ho1 k u (by rw [ho2, hu]))
    have HU := Lib.hid hu
    simp only [Option.map_some, Option.getD_some, Option.isSome_some, ptr] at hlk
    clear ho1 ho2 hu
    cases u with
    | none =>
      have hov : ON.ov (none : Option Int) = .int .i64 0 := rfl
      go_enter Try.func16, Try.ntmps16
      go_wp2_with fail
      go_region_held3 (fun w' => w'.cell? ⟨r, 1, none⟩ = some (.map (some M)) ∧ (Instr.lookup 43 (.map (some M)) (.int .i64 s) true).run Try.prog w' = .ok (.tuple #[.pointer (some ⟨g, 0, none⟩), .bool true]) w') (first | exact ⟨c1, hlk⟩) (first
        | (go_at_call 28
           (with_reducible refine (HSH.out).mono ?_)
           rintro _ wz ⟨rfl, hw0⟩
           replace hw0 := hw0.symm
           subst hw0)
        | fail)
      all_goals (
        go_wp2_with fail
        refine HGT.out.mono ?_
        rintro _ wz ⟨rfl, hw0⟩
        replace hw0 := hw0.symm
        subst hw0
        rw [hov]
        go_wp2
        go_ret
        exact ⟨by unfold findO; rw [HU.out]; rfl, rfl⟩)
    | some v =>
      have hov : ON.ov (some v) = .int .i64 v := rfl
      go_enter Try.func16, Try.ntmps16
      go_wp2_with fail
      go_region_held3 (fun w' => w'.cell? ⟨r, 1, none⟩ = some (.map (some M)) ∧ (Instr.lookup 43 (.map (some M)) (.int .i64 s) true).run Try.prog w' = .ok (.tuple #[.pointer (some ⟨g, 0, none⟩), .bool true]) w') (first | exact ⟨c1, hlk⟩) (first
        | (go_at_call 28
           (with_reducible refine (HSH.out).mono ?_)
           rintro _ wz ⟨rfl, hw0⟩
           replace hw0 := hw0.symm
           subst hw0)
        | fail)
      all_goals (
        go_wp2_with fail
        refine HGT.out.mono ?_
        rintro _ wz ⟨rfl, hw0⟩
        replace hw0 := hw0.symm
        subst hw0
        rw [hov]
        go_wp2
        go_ret
        exact ⟨by unfold findO; rw [HU.out]; rfl, rfl⟩)
theorem load_any (h : Rgs w r M n E L c) (s : Int) (hs : wf s) (m : Nat) (hm : (L.filter (inS n s)).length = m) : Calls Try.prog 19 #[.pointer (some ⟨r, 0, none⟩), .int .i64 s] w fun e w' => e = .returned (.int .i64 (m : Int)) ∧ w' = w := by
  have c1 := h.box.cell 1
  simp only [List.getElem?_toArray, List.getElem?_cons_zero, List.getElem?_cons_succ] at c1
  obtain ⟨o, ho⟩ : ∃ o, lkS s E = o := ⟨_, rfl⟩
  have hlk := (look_of h hs ho).1
  cases o with
  | none =>
    simp only [Option.map_none, Option.getD_none, Option.isSome_none] at hlk
    have e : m = 0 := by
      rw [← hm, List.length_eq_zero_iff, List.filter_eq_nil_iff]
      intro q hq hx
      obtain ⟨g, hg⟩ := h.cov q hq
      unfold inS at hx
      exact lk_none ho _ hg (beq_iff_eq.1 hx)
    subst e
    clear h ho hm
    go_enter Try.func19, Try.ntmps19
    go_wp2
    go_ret
    exact ⟨rfl, rfl⟩
  | some g =>
    simp only [Option.map_some, Option.getD_some, Option.isSome_some, ptr] at hlk
    have hl := ON.om_len (h.oms _ (lk_mem ho))
    simp only at hl
    rw [hm] at hl
    have HL := Lib.hid hl
    clear h ho hm hl
    go_enter Try.func19, Try.ntmps19
    go_wp2_with fail
    refine HL.out.mono ?_
    rintro _ wz ⟨rfl, hw0⟩
    replace hw0 := hw0.symm
    subst hw0
    go_wp2
    go_ret
    exact ⟨rfl, rfl⟩
end
end Go.Proofs.Ytlfjhbfhnlclpaa
