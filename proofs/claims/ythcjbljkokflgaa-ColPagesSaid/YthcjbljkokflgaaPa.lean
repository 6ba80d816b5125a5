/- Split, the program's. -/
import Derived.Test.YthcjbljkokflgaaZaa
import Derived.Test.YthcjbljkokflgaaZag
import Derived.Test.YthcjbljkokflgaaProg
import Derived.Maps.Own
import Derived.Maps.OwnOps
import Derived.Maps.Views
import Derived.BigQuiet
import Derived.RegionTactic
import Derived.Deep.QuietTactic
set_option linter.unnecessarySimpa false
/- Split's maths: where each version stands last, among the first m items. -/
namespace Go.Proofs.Sp
/-- The last place of v among the first m of l: just what the map `last` holds behind m rounds. -/
def lastUp (l : List Int) : Nat → Int → Option Nat
  | 0, _ => none
  | m + 1, v => if l[m]? = some v then some m else lastUp l m v
theorem lastUp_lt {l : List Int} {v : Int} {j : Nat} : ∀ {m : Nat}, lastUp l m v = some j → j < m
  | 0, h => by cases h
  | m + 1, h => by
    unfold lastUp at h
    split at h
    · cases h
      omega
    · have := lastUp_lt h
      omega
theorem lastUp_at {l : List Int} {v : Int} {n : Nat} (h1 : l[n]? = some v) : ∀ {m : Nat}, n < m → (lastUp l m v = some n ↔ ∀ k, n < k → k < m → l[k]? ≠ some v)
  | 0, h => by omega
  | m + 1, h => by
    unfold lastUp
    by_cases hm : l[m]? = some v
    · rw [if_pos hm]
      by_cases he : m = n
      · subst he
        exact ⟨fun _ k h2 h3 => by omega, fun _ => rfl⟩
      · refine ⟨fun e => ?_, fun e => ?_⟩
        · cases e
          exact (he rfl).elim
        · exact (e m (by omega) (by omega) hm).elim
    · rw [if_neg hm]
      have hne : n ≠ m := fun e => hm (e ▸ h1)
      rw [lastUp_at h1 (show n < m by omega)]
      refine ⟨fun e k h2 h3 => ?_, fun e k h2 h3 => e k h2 (by omega)⟩
      by_cases hk : k = m
      · subst hk
        exact hm
      · exact e k h2 (by omega)
/-- Does v come again among l's items from n on, below m: what the document's inner loop has in `behind`. -/
def behind (l : List Int) (n : Nat) (v : Int) : Nat → Bool
  | 0 => false
  | d + 1 => behind l n v d || decide (l[n + d]? = some v)
theorem behind_iff {l : List Int} {n : Nat} {v : Int} : ∀ {d : Nat}, behind l n v d = false ↔ ∀ k, n ≤ k → k < n + d → l[k]? ≠ some v
  | 0 => ⟨fun _ k h1 h2 => by omega, fun _ => rfl⟩
  | d + 1 => by
    unfold behind
    rw [Bool.or_eq_false_iff, behind_iff, decide_eq_false_iff_not]
    refine ⟨fun ⟨h1, h2⟩ k h3 h4 => ?_, fun h => ⟨fun k h3 h4 => h k h3 (by omega), h _ (by omega) (by omega)⟩⟩
    by_cases hk : k = n + d
    · subst hk
      exact h2
    · exact h1 k h3 (by omega)
/-- The program's test, and the document's, at one n. -/
theorem split_at {l : List Int} {n : Nat} {v : Int} (h0 : n < l.length) (h1 : l[n]? = some v) : (lastUp l l.length v = some n) ↔ behind l (n + 1) v (l.length - (n + 1)) = false := by
  rw [lastUp_at h1 h0, behind_iff]
  exact ⟨fun h k h2 h3 => h k (by omega) (by omega), fun h k h2 h3 => h k (by omega) (by omega)⟩
/-- Where a list of `len` items is cut, from n on, d of them left, t being the test at n. -/
def cutAt (t : Nat → Bool) (len : Nat) : Nat → Nat → Nat
  | 0, _ => len
  | d + 1, n => if t n = true then n else cutAt t len d (n + 1)
theorem cutAt_congr {t u : Nat → Bool} {len : Nat} : ∀ {d n : Nat}, (∀ k, n ≤ k → k < n + d → t k = u k) → cutAt t len d n = cutAt u len d n
  | 0, _, _ => rfl
  | d + 1, n, h => by
    unfold cutAt
    rw [h n (Nat.le_refl _) (by omega), cutAt_congr (d := d) (n := n + 1) (fun k h1 h2 => h k (by omega) (by omega))]
theorem cutAt_le {t : Nat → Bool} {len : Nat} : ∀ {d n : Nat}, n + d ≤ len → cutAt t len d n ≤ len
  | 0, _, _ => Nat.le_refl _
  | d + 1, n, h => by
    unfold cutAt
    split
    · omega
    · exact cutAt_le (by omega)
/-- The program's cut, and the document's: the same. -/
theorem cut_same {l : List Int} {n : Nat} (hn : 1 ≤ n) :
    cutAt (fun k => decide (∀ v, l[k - 1]? = some v → lastUp l l.length v = some (k - 1))) l.length (l.length - n) n
      = cutAt (fun k => decide (∀ v, l[k - 1]? = some v → behind l k v (l.length - k) = false)) l.length (l.length - n) n := by
  refine cutAt_congr (fun k h1 h2 => ?_)
  have hk : k - 1 < l.length := by omega
  have he : l[k - 1]? = some l[k - 1] := List.getElem?_eq_getElem hk
  have := split_at hk he
  rw [show k - 1 + 1 = k by omega] at this
  rw [decide_eq_decide]
  refine ⟨fun h v hv => ?_, fun h v hv => ?_⟩
  · rw [he] at hv
    cases hv
    exact this.1 (h _ he)
  · rw [he] at hv
    cases hv
    exact this.2 (h _ he)
end Go.Proofs.Sp
/- Split, the document's. -/
namespace Go.Proofs.Ythcjbljkokflgaa
open Go.RowKit
open Go.Lib
open Go.Proofs.Sp
set_option linter.unusedVariables false
set_option linter.unusedSimpArgs false
set_option maxRecDepth 100000
def tst (vs : List Int) (n : Nat) : Bool := !behind vs n (vs.getD (n - 1) 0) (vs.length - n)
def spl (vs : List Int) (most : Int) : Nat := cutAt (tst vs) vs.length (vs.length - (max most 1).toNat) (max most 1).toNat
set_option maxHeartbeats 8000000 in
theorem rsplit_any {w : World} {A : Option Addr} {len cap b off : Nat} {xs : List It} (h : Its w A len cap b off xs) (hn : len ≤ 100000) (most : Int) : Calls Try.prog 33 #[.slice A len cap, .int .i64 most] w fun e w' => e = .returned (.int .i64 (spl (xs.map It.v) most : Int)) ∧ Below w.heap.size w w' := by
  have HI := Lib.hid h
  have hlen := h.hlen
  have hlc := h.le
  have hnI : (len : Int) ≤ 100000 := by omega
  obtain ⟨vs, hvs⟩ : ∃ vs, xs.map It.v = vs := ⟨_, rfl⟩
  have HV := Lib.hid (show ∀ (j : Nat) (t : It), xs[j]? = some t → vs[j]? = some t.v from fun j t ht => by rw [← hvs, List.getElem?_map, ht]; rfl)
  have HVL := Lib.hid (show vs.length = len by rw [← hvs, List.length_map, hlen])
  rw [hvs]
  obtain ⟨r, hr⟩ : ∃ r, spl vs most = r := ⟨_, rfl⟩
  have HR := Lib.hid hr
  rw [hr]
  clear hr h hvs
  obtain ⟨z0, hz0⟩ : ∃ z, max most 1 = z := ⟨_, rfl⟩
  have HZ := Lib.hid hz0
  have hz1 : 1 ≤ z0 := by omega
  have HR0 := Lib.hid (show cutAt (tst vs) len (len - z0.toNat) z0.toNat = r by have := HR.out; unfold spl at this; rw [HVL.out, hz0] at this; exact this)
  by_cases hm : most < 1
  · obtain rfl : z0 = 1 := by omega
    clear hz0
    go_enter Try.func33, Try.ntmps33
    go_wp2
    go_loopw [5] (fun kk wr => ∃ z : Int, 1 ≤ z ∧ kk = .int .i64 z ∧ cutAt (tst vs) len (len - z.toNat) z.toNat = r ∧ Below w.heap.size w wr) (fun kk _ => ((len : Int) - intOf kk).toNat)
    case atStart => exact ⟨_, hz1, (by first | rfl | (congr 1 <;> omega)), HR0.out, Below.refl _ _⟩
    case round =>
      obtain ⟨z, hz, rfl, hc, hB⟩ := hrel
      have HC := Lib.hid hc
      have HB := Lib.hid hB
      clear hc hB
      by_cases hzl : z < (len : Int)
      · obtain ⟨n, rfl⟩ : ∃ n : Nat, z = (n : Int) + 1 := ⟨(z - 1).toNat, by omega⟩
        have hnl : n + 1 < len := by omega
        obtain ⟨t0, ht0⟩ : ∃ t, xs[n]? = some t := ⟨xs[n]'(by rw [HI.out.hlen]; omega), List.getElem?_eq_getElem _⟩
        obtain ⟨rfl, hbl⟩ := HI.out.addr (by omega)
        have HT0 := Lib.hid ht0
        have HST := Lib.hid (show cutAt (tst vs) len (len - (n + 1)) (n + 1) = r by have := HC.out; rw [show ((n : Int) + 1).toNat = n + 1 by omega] at this; exact this)
        have HTS := Lib.hid (show tst vs (n + 1) = !behind vs (n + 1) t0.v (len - (n + 1)) by
          unfold tst
          rw [HVL.out, Nat.add_sub_cancel, List.getD_eq_getElem?_getD, HV.out n t0 HT0.out]
          rfl)
        obtain ⟨uv, hu⟩ : ∃ u, t0.v = u := ⟨_, rfl⟩
        have HU := Lib.hid hu
        rw [hu] at HTS
        clear ht0 hu hz
        have hwr : IntKind.i64.wrap ((n : Int) + 1 - 1) = (n : Int) := by rw [show (n : Int) + 1 - 1 = (n : Int) by omega]; exact IntWalk.i64_in _ (by omega)
        have hdz : decide ((n : Int) + 1 < (len : Int)) = true := decide_eq_true hzl
        go_wp2
        try simp only [hdz]
        go_loopw [6, 7] (fun bb kk wr2 => ∃ (d : Nat) (B : Bool), n + 1 + d ≤ len ∧ bb = .bool B ∧ kk = .int .i64 ((n + 1 + d : Nat) : Int) ∧ behind vs (n + 1) uv d = B ∧ Below w.heap.size w wr2) (fun _ kk _ => ((len : Int) - intOf kk).toNat)
        case atStart => exact ⟨0, false, by omega, rfl, by simp, rfl, HB.out⟩
        case round =>
          obtain ⟨d, B, hd, rfl, rfl, hbe, hB2⟩ := hrel
          have HBE := Lib.hid hbe
          have HB2 := Lib.hid hB2
          clear hbe hB2
          obtain ⟨k, hk⟩ : ∃ k, n + 1 + d = k := ⟨_, rfl⟩
          have HK := Lib.hid hk
          rw [hk] at hd ⊢
          clear hk
          by_cases hkl : k < len
          · obtain ⟨t1, ht1⟩ : ∃ t, xs[k]? = some t := ⟨xs[k]'(by rw [HI.out.hlen]; omega), List.getElem?_eq_getElem _⟩
            obtain ⟨_, c1, _, _⟩ := (HI.out.below HB2.out (fun _ => hbl)).cell k t1 ht1
            obtain ⟨_, d1, _, _⟩ := (HI.out.below HB2.out (fun _ => hbl)).cell n t0 HT0.out
            rw [HU.out] at d1
            have HKV := Lib.hid (HV.out k t1 ht1)
            obtain ⟨kv, hkv⟩ : ∃ u, t1.v = u := ⟨_, rfl⟩
            rw [hkv] at c1 HKV
            have hkI : (k : Int) < (len : Int) := by omega
            have HBS := Lib.hid (show behind vs (n + 1) uv (d + 1) = (B || decide (vs[k]? = some uv)) by rw [← HBE.out, ← HK.out]; rfl)
            rw [HKV.out] at HBS
            clear ht1 hkv HKV
            cases B with
            | true =>
              go_wp2_with fail
              go_quiet (fail)
              have HQ := Lib.hid (below_drewN HB2.out nq)
              go_wp2
              go_roundw
              case rel => exact ⟨d + 1, true, by have := HK.out; omega, rfl, by congr 1; have := HK.out; omega, by rw [HBS.out]; rfl, HQ.out⟩
              case measure => simp [intOf]; omega
            | false =>
              by_cases he : kv = uv
              · have he2 : (kv == uv) = true := by rw [he]; simp
                have HE := Lib.hid he
                clear he
                go_wp2_with fail
                go_quiet (fail)
                have HQ := Lib.hid (below_drewN HB2.out nq)
                go_wp2
                go_roundw
                case rel => exact ⟨d + 1, true, by have := HK.out; omega, rfl, by congr 1; have := HK.out; omega, by rw [HBS.out, HE.out]; simp, HQ.out⟩
                case measure => simp [intOf]; omega
              · have he2 : (kv == uv) = false := by simpa using he
                have HE := Lib.hid he
                clear he
                go_wp2_with fail
                go_quiet (fail)
                have HQ := Lib.hid (below_drewN HB2.out nq)
                go_wp2
                go_roundw
                case rel => exact ⟨d + 1, false, by have := HK.out; omega, rfl, by congr 1; have := HK.out; omega, by rw [HBS.out]; simpa using HE.out, HQ.out⟩
                case measure => simp [intOf]; omega
          · obtain rfl : k = len := by omega
            have HD := Lib.hid (show d = k - (n + 1) by have := HK.out; omega)
            cases B with
            | true =>
              have HN := Lib.hid (show cutAt (tst vs) k (k - (n + 1 + 1)) (n + 1 + 1) = r by
                have h1 := HST.out
                rw [show k - (n + 1) = (k - (n + 1 + 1)) + 1 by omega] at h1
                unfold cutAt at h1
                rw [HTS.out, ← HD.out, HBE.out] at h1
                exact h1)
              go_wp2
              go_roundw
              case rel => exact ⟨(n : Int) + 1 + 1, by omega, by go_num, by rw [show ((n : Int) + 1 + 1).toNat = n + 1 + 1 by omega]; exact HN.out, HB2.out⟩
              case measure => simp [intOf]; omega
            | false =>
              have HN := Lib.hid (show r = n + 1 by
                have h1 := HST.out
                rw [show k - (n + 1) = (k - (n + 1 + 1)) + 1 by omega] at h1
                unfold cutAt at h1
                rw [HTS.out, ← HD.out, HBE.out] at h1
                exact h1.symm)
              go_wp2
              go_ret
              exact ⟨by rw [HN.out]; first | rfl | simp, HB2.out⟩
      · have HN := Lib.hid (show r = len by have h1 := HC.out; rw [show len - z.toNat = 0 by omega] at h1; exact h1.symm)
        go_wp2
        go_ret
        exact ⟨by rw [HN.out]; rfl, HB.out⟩
  · obtain rfl : z0 = most := by omega
    clear hz0
    go_enter Try.func33, Try.ntmps33
    go_wp2
    go_loopw [5] (fun kk wr => ∃ z : Int, 1 ≤ z ∧ kk = .int .i64 z ∧ cutAt (tst vs) len (len - z.toNat) z.toNat = r ∧ Below w.heap.size w wr) (fun kk _ => ((len : Int) - intOf kk).toNat)
    case atStart => exact ⟨_, hz1, (by first | rfl | (congr 1 <;> omega)), HR0.out, Below.refl _ _⟩
    case round =>
      obtain ⟨z, hz, rfl, hc, hB⟩ := hrel
      have HC := Lib.hid hc
      have HB := Lib.hid hB
      clear hc hB
      by_cases hzl : z < (len : Int)
      · obtain ⟨n, rfl⟩ : ∃ n : Nat, z = (n : Int) + 1 := ⟨(z - 1).toNat, by omega⟩
        have hnl : n + 1 < len := by omega
        obtain ⟨t0, ht0⟩ : ∃ t, xs[n]? = some t := ⟨xs[n]'(by rw [HI.out.hlen]; omega), List.getElem?_eq_getElem _⟩
        obtain ⟨rfl, hbl⟩ := HI.out.addr (by omega)
        have HT0 := Lib.hid ht0
        have HST := Lib.hid (show cutAt (tst vs) len (len - (n + 1)) (n + 1) = r by have := HC.out; rw [show ((n : Int) + 1).toNat = n + 1 by omega] at this; exact this)
        have HTS := Lib.hid (show tst vs (n + 1) = !behind vs (n + 1) t0.v (len - (n + 1)) by
          unfold tst
          rw [HVL.out, Nat.add_sub_cancel, List.getD_eq_getElem?_getD, HV.out n t0 HT0.out]
          rfl)
        obtain ⟨uv, hu⟩ : ∃ u, t0.v = u := ⟨_, rfl⟩
        have HU := Lib.hid hu
        rw [hu] at HTS
        clear ht0 hu hz
        have hwr : IntKind.i64.wrap ((n : Int) + 1 - 1) = (n : Int) := by rw [show (n : Int) + 1 - 1 = (n : Int) by omega]; exact IntWalk.i64_in _ (by omega)
        have hdz : decide ((n : Int) + 1 < (len : Int)) = true := decide_eq_true hzl
        go_wp2
        try simp only [hdz]
        go_loopw [6, 7] (fun bb kk wr2 => ∃ (d : Nat) (B : Bool), n + 1 + d ≤ len ∧ bb = .bool B ∧ kk = .int .i64 ((n + 1 + d : Nat) : Int) ∧ behind vs (n + 1) uv d = B ∧ Below w.heap.size w wr2) (fun _ kk _ => ((len : Int) - intOf kk).toNat)
        case atStart => exact ⟨0, false, by omega, rfl, by simp, rfl, HB.out⟩
        case round =>
          obtain ⟨d, B, hd, rfl, rfl, hbe, hB2⟩ := hrel
          have HBE := Lib.hid hbe
          have HB2 := Lib.hid hB2
          clear hbe hB2
          obtain ⟨k, hk⟩ : ∃ k, n + 1 + d = k := ⟨_, rfl⟩
          have HK := Lib.hid hk
          rw [hk] at hd ⊢
          clear hk
          by_cases hkl : k < len
          · obtain ⟨t1, ht1⟩ : ∃ t, xs[k]? = some t := ⟨xs[k]'(by rw [HI.out.hlen]; omega), List.getElem?_eq_getElem _⟩
            obtain ⟨_, c1, _, _⟩ := (HI.out.below HB2.out (fun _ => hbl)).cell k t1 ht1
            obtain ⟨_, d1, _, _⟩ := (HI.out.below HB2.out (fun _ => hbl)).cell n t0 HT0.out
            rw [HU.out] at d1
            have HKV := Lib.hid (HV.out k t1 ht1)
            obtain ⟨kv, hkv⟩ : ∃ u, t1.v = u := ⟨_, rfl⟩
            rw [hkv] at c1 HKV
            have hkI : (k : Int) < (len : Int) := by omega
            have HBS := Lib.hid (show behind vs (n + 1) uv (d + 1) = (B || decide (vs[k]? = some uv)) by rw [← HBE.out, ← HK.out]; rfl)
            rw [HKV.out] at HBS
            clear ht1 hkv HKV
            cases B with
            | true =>
              go_wp2_with fail
              go_quiet (fail)
              have HQ := Lib.hid (below_drewN HB2.out nq)
              go_wp2
              go_roundw
              case rel => exact ⟨d + 1, true, by have := HK.out; omega, rfl, by congr 1; have := HK.out; omega, by rw [HBS.out]; rfl, HQ.out⟩
              case measure => simp [intOf]; omega
            | false =>
              by_cases he : kv = uv
              · have he2 : (kv == uv) = true := by rw [he]; simp
                have HE := Lib.hid he
                clear he
                go_wp2_with fail
                go_quiet (fail)
                have HQ := Lib.hid (below_drewN HB2.out nq)
                go_wp2
                go_roundw
                case rel => exact ⟨d + 1, true, by have := HK.out; omega, rfl, by congr 1; have := HK.out; omega, by rw [HBS.out, HE.out]; simp, HQ.out⟩
                case measure => simp [intOf]; omega
              · have he2 : (kv == uv) = false := by simpa using he
                have HE := Lib.hid he
                clear he
                go_wp2_with fail
                go_quiet (fail)
                have HQ := Lib.hid (below_drewN HB2.out nq)
                go_wp2
                go_roundw
                case rel => exact ⟨d + 1, false, by have := HK.out; omega, rfl, by congr 1; have := HK.out; omega, by rw [HBS.out]; simpa using HE.out, HQ.out⟩
                case measure => simp [intOf]; omega
          · obtain rfl : k = len := by omega
            have HD := Lib.hid (show d = k - (n + 1) by have := HK.out; omega)
            cases B with
            | true =>
              have HN := Lib.hid (show cutAt (tst vs) k (k - (n + 1 + 1)) (n + 1 + 1) = r by
                have h1 := HST.out
                rw [show k - (n + 1) = (k - (n + 1 + 1)) + 1 by omega] at h1
                unfold cutAt at h1
                rw [HTS.out, ← HD.out, HBE.out] at h1
                exact h1)
              go_wp2
              go_roundw
              case rel => exact ⟨(n : Int) + 1 + 1, by omega, by go_num, by rw [show ((n : Int) + 1 + 1).toNat = n + 1 + 1 by omega]; exact HN.out, HB2.out⟩
              case measure => simp [intOf]; omega
            | false =>
              have HN := Lib.hid (show r = n + 1 by
                have h1 := HST.out
                rw [show k - (n + 1) = (k - (n + 1 + 1)) + 1 by omega] at h1
                unfold cutAt at h1
                rw [HTS.out, ← HD.out, HBE.out] at h1
                exact h1.symm)
              go_wp2
              go_ret
              exact ⟨by rw [HN.out]; first | rfl | simp, HB2.out⟩
      · have HN := Lib.hid (show r = len by have h1 := HC.out; rw [show len - z.toNat = 0 by omega] at h1; exact h1.symm)
        go_wp2
        go_ret
        exact ⟨by rw [HN.out]; rfl, HB.out⟩
end Go.Proofs.Ythcjbljkokflgaa
/- Maps with int64 keys that hold whatever values: what stands where, how many. -/
namespace Go.Proofs.Ythcjbljkokflgaa
open Go.RowKit Go.Maps
open Go.WideElems (rg Fit)
open Go.ChangeMaps Go.MapKept
set_option linter.unusedVariables false
set_option maxRecDepth 20000
abbrev VD := DataW Value
/-- A value reads as itself. -/
def RV (v : Value) : Option (VD × List MemPlace) := some (.held v, [])
theorem K3 : Keyed Try.prog 2 := int_keyed Try.underlying2
def wf (x : Int) : Prop := (Lit.int .i64 x).wf = true
theorem key3 {x : Int} (h : wf x) : keyOf Try.prog 2 (.int .i64 x) = some (.int .i64 x) := keyOf_int_mk Try.underlying2 h
theorem wf_i64 {a : Int} (w : (Lit.int .i64 a).wf = true) : -9223372036854775808 ≤ a ∧ a ≤ 9223372036854775807 := by simpa [Lit.wf, IntKind.min, IntKind.max, IntKind.signed, IntKind.bits] using w
theorem wf_mk {a : Int} (h1 : -9223372036854775808 ≤ a) (h2 : a ≤ 9223372036854775807) : wf a := by unfold wf; simp [Lit.wf, IntKind.min, IntKind.max, IntKind.signed, IntKind.bits]; omega
/-- What lies at x. -/
def vl (D : VD) (x : Int) : Option Value :=
  match D.atKey (.int .i64 x) .nil with
  | .held v => some v
  | _ => none
theorem key_lit (x : Int) : WideAt.IsKeyLit (.int .i64 x) := by simp [WideAt.IsKeyLit]
theorem vl_put {D : VD} (h : IsMap D) (x : Int) (v : Value) : vl (D.put (.int .i64 x) (.held v)) x = some v := by unfold vl; rw [atKey_put_same h (key_lit x)]
theorem vl_put_ne {D : VD} {x y : Int} (hne : y ≠ x) (d : VD) : vl (D.put (.int .i64 x) d) y = vl D y := by unfold vl; rw [atKey_put_other (by simpa using hne)]
theorem vl_del (D : VD) (x : Int) : vl (D.del (.int .i64 x)) x = none := by unfold vl; rw [atKey_del_same]
theorem vl_del_ne {D : VD} {x y : Int} (hne : y ≠ x) : vl (D.del (.int .i64 x)) y = vl D y := by unfold vl; rw [atKey_del_other (by simpa using hne)]
/-- A map's datum: no key twice; what is there is held. -/
structure Vd (D : VD) : Prop where
  tidy : Tidy D
  has : ∀ x : Int, Maps.has D (.int .i64 x) = (vl D x).isSome
theorem Vd.empty : Vd (.map []) := ⟨tidy_empty, fun x => rfl⟩
theorem Vd.put {D : VD} (h : Vd D) (x : Int) (v : Value) : Vd (D.put (.int .i64 x) (.held v)) :=
  ⟨h.tidy.put (key_lit x) _, fun y => by
    by_cases e : y = x
    · subst e
      rw [has_put_same h.tidy.isMap (key_lit y), vl_put h.tidy.isMap]; rfl
    · rw [has_put_other (by simpa using e), vl_put_ne e, h.has]⟩
theorem Vd.del {D : VD} (h : Vd D) (x : Int) : Vd (D.del (.int .i64 x)) :=
  ⟨h.tidy.del _, fun y => by
    by_cases e : y = x
    · subst e
      rw [has_del_same, vl_del]; rfl
    · rw [has_del_other (by simpa using e), vl_del_ne e, h.has]⟩
theorem Vd.size_put {D : VD} (h : Vd D) (x : Int) (v : Value) : Maps.size (D.put (.int .i64 x) (.held v)) = if (vl D x).isSome then Maps.size D else Maps.size D + 1 := by
  rw [Maps.size_put h.tidy, h.has]
theorem Vd.size_del {D : VD} (h : Vd D) (x : Int) : Maps.size (D.del (.int .i64 x)) + (if (vl D x).isSome then 1 else 0) = Maps.size D := by
  rw [← h.has]
  exact Maps.size_del h.tidy
def Vm (w : World) (b : Nat) (D : VD) : Prop := ∃ es clock, w.heap[b]? = some (.map es clock) ∧ Fit Try.prog 2 RV es clock ∧ D = .map ((es.toList.map (rg Try.prog 2 RV)).foldr DataW.insert []) ∧ Vd D
theorem Vm.lt {w : World} {b : Nat} {D : VD} (h : Vm w b D) : b < w.heap.size := by
  obtain ⟨es, clock, hb, _⟩ := h
  exact (Array.getElem?_eq_some_iff.1 hb).1
theorem Vm.vd {w : World} {b : Nat} {D : VD} (h : Vm w b D) : Vd D := by
  obtain ⟨es, clock, hb, _, _, h⟩ := h
  exact h
theorem Vm.off {w w' : World} {b : Nat} {D : VD} (h : Vm w b D) (hb : w'.heap[b]? = w.heap[b]?) : Vm w' b D := by
  obtain ⟨es, clock, h1, h2, h3, h4⟩ := h
  exact ⟨es, clock, hb.trans h1, h2, h3, h4⟩
theorem Vm.made (w : World) : Vm (w.alloc (.map #[] 0)) w.heap.size (.map []) :=
  ⟨#[], 0, (MapKept.heap_alloc w _).1, ⟨by simp, stamped_empty 0, by simp⟩, rfl, Vd.empty⟩
theorem Vm.size_eq {D : VD} {es : Array MapEntry} (h : D = .map ((es.toList.map (rg Try.prog 2 RV)).foldr DataW.insert [])) : Maps.size D = es.size := by
  subst h
  show List.length _ = _
  rw [length_sorted]
  simp
theorem Vm.look {w : World} {b : Nat} {D : VD} {t e : TypeId} (h : Vm w b D) (ht : Try.prog.underlying t = some (.map 2 e)) {z : Value} (hz : (zeroValue e).run Try.prog w = .ok z w) {x : Int} (hx : wf x) :
    (Instr.lookup t (.map (some b)) (.int .i64 x) true).run Try.prog w = .ok (.tuple #[(vl D x).getD z, .bool (vl D x).isSome]) w ∧ (Instr.lookup t (.map (some b)) (.int .i64 x) false).run Try.prog w = .ok ((vl D x).getD z) w := by
  obtain ⟨es, clock, hb, F, rfl, _⟩ := h
  rcases fit_look true K3 ht hz hb F (key3 hx) with ⟨h1, h0, h2⟩ | ⟨e0, y, m1, m2, h1, h2, h3, _⟩
  · have ha : vl (DataW.map ((es.toList.map (rg Try.prog 2 RV)).foldr DataW.insert [])) x = none := by unfold vl; rw [h2]
    rw [ha]
    refine ⟨h1, ?_⟩
    rcases fit_look false K3 ht hz hb F (key3 hx) with ⟨g1, _, _⟩ | ⟨e1, y1, n1, n2, _⟩
    · exact g1
    · exact absurd n2 (h0 e1 n1)
  · cases h2
    have ha : vl (DataW.map ((es.toList.map (rg Try.prog 2 RV)).foldr DataW.insert [])) x = some e0.val := by unfold vl; rw [h3]
    rw [ha]
    refine ⟨h1, ?_⟩
    rcases fit_look false K3 ht hz hb F (key3 hx) with ⟨g1, g2, _⟩ | ⟨e1, y1, n1, n2, g1, g2, g3, _⟩
    · exact absurd m2 (g2 e0 m1)
    · cases g2
      have e : (DataW.held e1.val : VD) = .held e0.val := (g3 .nil).symm.trans (h3 .nil)
      injection e with e
      rw [← e]
      exact g1
theorem grown_set {w : World} {b : Nat} {es : Array MapEntry} {clock : Nat} {o2 : Obj} (hb : w.heap[b]? = some (.map es clock)) : w.grownBy (setBlock w b o2) (some b) :=
  ⟨rfl, rfl, rfl, by simp [setBlock], fun j hj hne => heap_setBlock_other hb _ (fun e => hne (by rw [e]))⟩
theorem Vm.upd {w : World} {b : Nat} {D : VD} {t e : TypeId} (h : Vm w b D) (hs : Maps.size D ≤ 1000000) (ht : Try.prog.underlying t = some (.map 2 e)) {x : Int} (hx : wf x) (v : Value) :
    ∃ w2, (Instr.mapUpdate t (.map (some b)) (.int .i64 x) v).run Try.prog w = .ok () w2 ∧ Vm w2 b (D.put (.int .i64 x) (.held v)) ∧ w.grownBy w2 (some b) ∧ w2.heap.size = w.heap.size := by
  obtain ⟨es, clock, hb, F, hD, hT⟩ := h
  have hsz := Vm.size_eq hD
  obtain ⟨es', clock', hrun, F', hput, _⟩ := fit_store (R' := RV) K3 ht hb F (by unfold maxLen; omega) (fun _ _ _ _ h => h) (key3 hx) (rfl : RV v = some (.held v, []))
  refine ⟨_, hrun, ⟨es', clock', heap_setBlock_same hb _, F', ?_, hT.put x v⟩, grown_set hb, by simp [setBlock]⟩
  rw [hD]
  show DataW.map _ = DataW.map _
  exact congrArg DataW.map hput.symm
theorem Vm.drop {w : World} {b : Nat} {D : VD} {t e : TypeId} (ty : TypeId) (h : Vm w b D) (ht : Try.prog.underlying t = some (.map 2 e)) {x : Int} (hx : wf x) :
    ∃ w2, (Builtin.delete_ #[t, 2] ty #[.map (some b), .int .i64 x]).run Try.prog w = .ok (.tuple #[]) w2 ∧ Vm w2 b (D.del (.int .i64 x)) ∧ w.grownBy w2 (some b) ∧ w2.heap.size = w.heap.size := by
  obtain ⟨es, clock, hb, F, hD, hT⟩ := h
  obtain ⟨es', hrun, F', hs', hdel, _⟩ := fit_drop (ty := ty) K3 ht hb F (key3 hx)
  refine ⟨_, hrun, ⟨es', clock, heap_setBlock_same hb _, F', ?_, hT.del x⟩, grown_set hb, by simp [setBlock]⟩
  rw [hD]
  show DataW.map _ = DataW.map _
  exact congrArg DataW.map hdel.symm
theorem Vm.len {w : World} {b : Nat} {D : VD} {t e : TypeId} (ty : TypeId) (h : Vm w b D) (ht : Try.prog.underlying t = some (.map 2 e)) :
    (Builtin.len_ #[t] ty #[.map (some b)]).run Try.prog w = .ok (.int .i64 (Maps.size D)) w := by
  obtain ⟨es, clock, hb, F, hD, hT⟩ := h
  rw [Vm.size_eq hD]
  simp [Builtin.len_, run_underlying ht, MapKept.run_getObj_map hb, goInt]
end Go.Proofs.Ythcjbljkokflgaa
namespace Go.Proofs.Ythcjbljkokflgaa
open Go.RowKit Go.Maps
open Go.Lib
open Go.Proofs.Sp
set_option linter.unusedVariables false
set_option linter.unusedSimpArgs false
set_option maxRecDepth 100000
theorem zeroI (w : World) : (zeroValue 3).run Try.prog w = .ok (.int .i64 0) w := by kernel_rfl
theorem run_mm (n : Int) (w : World) : (Instr.makeMap 102 (some (.int .i64 n))).run Try.prog w = .ok (.map (some w.heap.size)) (w.alloc (.map #[] 0)) := by
  simp [Instr.makeMap, run_underlying Try.underlying102, asInt, asIntOf, Result.andThen]
/-- What the map holds behind q items. -/
structure Lst (D : VD) (vs : List Int) (q : Nat) : Prop where
  at_ : ∀ v, vl D v = (lastUp vs q v).map (fun j => Value.int .i64 (j : Int))
  size : Maps.size D ≤ q
theorem Lst.empty (vs : List Int) : Lst (.map []) vs 0 := ⟨fun v => rfl, Nat.le_refl _⟩
theorem Lst.put {D : VD} {vs : List Int} {q : Nat} (h : Lst D vs q) (hd : Vd D) {x : Int} (hx : vs[q]? = some x) : Lst (D.put (.int .i64 x) (.held (.int .i64 (q : Int)))) vs (q + 1) :=
  ⟨fun v => by
    by_cases e : v = x
    · subst e
      rw [vl_put hd.tidy.isMap]
      unfold lastUp
      rw [if_pos hx]
      rfl
    · rw [vl_put_ne e, h.at_]
      conv => rhs; unfold lastUp
      rw [if_neg (by rw [hx]; exact fun h => e (Option.some.inj h).symm)], by
    have := h.size
    rw [hd.size_put]
    split <;> omega⟩
theorem lastUp_some {vs : List Int} {v : Int} {n : Nat} (h : vs[n]? = some v) : ∀ {m : Nat}, n < m → ∃ j, lastUp vs m v = some j
  | 0, hn => by omega
  | m + 1, hn => by
    unfold lastUp
    by_cases hm : vs[m]? = some v
    · exact ⟨m, by rw [if_pos hm]⟩
    · rw [if_neg hm]
      refine lastUp_some h ?_
      by_cases e : n = m
      · subst e; exact absurd h hm
      · omega
theorem tst_last {vs : List Int} {n : Nat} {v : Int} (h : vs[n]? = some v) : tst vs (n + 1) = decide (lastUp vs vs.length v = some n) := by
  have hn := (List.getElem?_eq_some_iff.1 h).1
  unfold tst
  rw [Nat.add_sub_cancel, List.getD_eq_getElem?_getD, h]
  have := split_at hn h
  show (!behind vs (n + 1) v (vs.length - (n + 1))) = _
  cases hb : behind vs (n + 1) v (vs.length - (n + 1)) with
  | true => rw [hb] at this; rw [decide_eq_false (fun e => by have := this.1 e; cases this)]; rfl
  | false => rw [decide_eq_true (this.2 hb)]; rfl
set_option maxHeartbeats 8000000 in
theorem split_any {w : World} {A : Option Addr} {len cap b off : Nat} {xs : List It} (h : Its w A len cap b off xs) (hn : len ≤ 100000) (hw : ∀ t ∈ xs, wf t.v) (most : Int) : Calls Try.prog 32 #[.slice A len cap, .int .i64 most] w fun e w' => e = .returned (.int .i64 (spl (xs.map It.v) most : Int)) ∧ Below w.heap.size w w' := by
  have HI := Lib.hid h
  have HW := Lib.hid hw
  have hlen := h.hlen
  have hlc := h.le
  have hnI : (len : Int) ≤ 100000 := by omega
  obtain ⟨vs, hvs⟩ : ∃ vs, xs.map It.v = vs := ⟨_, rfl⟩
  have HV := Lib.hid (show ∀ (j : Nat) (t : It), xs[j]? = some t → vs[j]? = some t.v from fun j t ht => by rw [← hvs, List.getElem?_map, ht]; rfl)
  have HVL := Lib.hid (show vs.length = len by rw [← hvs, List.length_map, hlen])
  rw [hvs]
  obtain ⟨r, hr⟩ : ∃ r, spl vs most = r := ⟨_, rfl⟩
  have HR := Lib.hid hr
  rw [hr]
  clear hr h hvs hw
  obtain ⟨z0, hz0⟩ : ∃ z, max most 1 = z := ⟨_, rfl⟩
  have hz1 : 1 ≤ z0 := by omega
  have HR0 := Lib.hid (show cutAt (tst vs) len (len - z0.toNat) z0.toNat = r by have := HR.out; unfold spl at this; rw [HVL.out, hz0] at this; exact this)
  have HZ := Lib.hid (show z0 = if most < 1 then 1 else most by split <;> omega)
  clear hz0
  go_enter Try.func32, Try.ntmps32
  have hmm := run_mm (len : Int)
  go_wp2
  clear hmm
  have HWge := Lib.hid (Nat.le_refl w.heap.size)
  go_loopw [14] (fun i wr => ∃ (q : Nat) (D : VD), q ≤ len ∧ i = .int .i64 (q : Int) ∧ Lst D vs q ∧ Vm wr w.heap.size D ∧ Below w.heap.size w wr) (fun i _ => len - (intOf i).toNat)
  case atStart => exact ⟨0, _, Nat.zero_le _, rfl, Lst.empty _, Vm.made w, (Below.refl _ _).alloc (Nat.le_refl _) _⟩
  case round =>
    obtain ⟨q, D, hq, rfl, hse, hvm, hB⟩ := hrel
    have HSE := Lib.hid hse
    have HVM := Lib.hid hvm
    have HB := Lib.hid hB
    clear hse hvm hB
    by_cases hql : q < len
    · obtain ⟨t, ht⟩ : ∃ t, xs[q]? = some t := ⟨xs[q]'(by rw [HI.out.hlen]; exact hql), List.getElem?_eq_getElem _⟩
      obtain ⟨rfl, hbl⟩ := HI.out.addr (by omega)
      obtain ⟨c0, c1, c2, c3⟩ := (HI.out.below HB.out (fun _ => hbl)).cell q t ht
      have HTV := Lib.hid (HV.out q t ht)
      have HTW := Lib.hid (HW.out t (List.mem_of_getElem? ht))
      have hqI : (q : Int) < (len : Int) := by omega
      obtain ⟨tu, tv, tx, tc⟩ := t
      simp only at c0 c1 c2 c3
      clear ht
      obtain ⟨n, hn2⟩ : ∃ n, wr.heap.size = n := ⟨_, rfl⟩
      obtain ⟨W1, hW1⟩ : ∃ W1, wr.alloc (.cells #[.string { data := #[] }, .int .i64 0, .bool false, .string { data := #[] }] 62) = W1 := ⟨_, rfl⟩
      have HB1 := Lib.hid (show Below wr.heap.size wr W1 from hW1 ▸ (Below.refl _ wr).alloc (Nat.le_refl _) _)
      have HX1 := Lib.hid (show Blk W1 n 62 #[.string .empty, .int .i64 0, .bool false, .string .empty] from hn2 ▸ hW1 ▸ Blk.new wr 62 _)
      have y0 := HX1.out.cell 0
      have y1 := HX1.out.cell 1
      have y2 := HX1.out.cell 2
      have y3 := HX1.out.cell 3
      have f0 := HX1.out.frozen 0
      have f1 := HX1.out.frozen 1
      have f2 := HX1.out.frozen 2
      have f3 := HX1.out.frozen 3
      obtain ⟨W2, hW2⟩ : ∃ W2, (((W1.setCell ⟨n, 0, none⟩ (.string tu)).setCell ⟨n, 1, none⟩ (.int .i64 tv)).setCell ⟨n, 2, none⟩ (.bool tx)).setCell ⟨n, 3, none⟩ (.string tc) = W2 := ⟨_, rfl⟩
      have HX2 := Lib.hid (show Blk W2 n 62 #[.string tu, .int .i64 tv, .bool tx, .string tc] from hW2 ▸ ((((HX1.out.set_ 0 _).set_ 1 _).set_ 2 _).set_ 3 _))
      have HB2 := Lib.hid (show Below n wr W2 from hW2 ▸ ((((((HB1.out.mono (Nat.le_of_eq hn2.symm)).setCell (p := ⟨n, 0, none⟩) (Nat.le_refl _) _).setCell (p := ⟨n, 1, none⟩) (Nat.le_refl _) _).setCell (p := ⟨n, 2, none⟩) (Nat.le_refl _) _).setCell (p := ⟨n, 3, none⟩) (Nat.le_refl _) _)))
      have HM2 := Lib.hid (HVM.out.off (HB2.out.block _ (by have := HVM.out.lt; omega)))
      obtain ⟨W4, hrun, hv4, hg4, _⟩ := HM2.out.upd (by have := HSE.out.size; omega) Try.underlying102 (x := tv) HTW.out (.int .i64 (q : Int))
      have HV4 := Lib.hid hv4
      have HBa := Lib.hid (HB.out.trans (HB2.out.mono (by rw [← hn2]; exact HB.out.size)))
      have HB4 := Lib.hid (HBa.out.grown hg4 HBa.out.size (fun j e => by cases e; exact Nat.le_refl _))
      have z1 := HX2.out.cell 1
      clear hv4 hg4
      go_wp2
      go_roundw
      case rel => exact ⟨q + 1, _, by omega, by go_num, HSE.out.put HM2.out.vd HTV.out, HV4.out, HB4.out⟩
      case measure => simp [intOf]; omega
    · obtain rfl : q = len := by omega
      have HS0 := Lib.hid (show Lst D vs vs.length from HVL.out ▸ HSE.out)
      by_cases hm : most < 1
      · obtain rfl : z0 = 1 := by rw [HZ.out, if_pos hm]
        go_wp2
        go_loopw [8] (fun kk wr => ∃ z : Int, 1 ≤ z ∧ kk = .int .i64 z ∧ cutAt (tst vs) q (q - z.toNat) z.toNat = r ∧ Vm wr w.heap.size D ∧ Below w.heap.size w wr) (fun kk _ => ((q : Int) - intOf kk).toNat)
        case atStart => exact ⟨_, hz1, (by first | rfl | (congr 1 <;> omega)), HR0.out, HVM.out, HB.out⟩
        case round =>
          obtain ⟨z, hz, rfl, hc, hv, hB⟩ := hrel
          have HC := Lib.hid hc
          have HV2 := Lib.hid hv
          have HB2 := Lib.hid hB
          clear hc hv hB
          by_cases hzl : z < (q : Int)
          · obtain ⟨n, rfl⟩ : ∃ n : Nat, z = (n : Int) + 1 := ⟨(z - 1).toNat, by omega⟩
            have hnl : n + 1 < q := by omega
            obtain ⟨t0, ht0⟩ : ∃ t, xs[n]? = some t := ⟨xs[n]'(by rw [HI.out.hlen]; omega), List.getElem?_eq_getElem _⟩
            obtain ⟨rfl, hbl⟩ := HI.out.addr (by omega)
            obtain ⟨_, c1, _, _⟩ := (HI.out.below HB2.out (fun _ => hbl)).cell n t0 ht0
            have HST := Lib.hid (show cutAt (tst vs) q (q - (n + 1)) (n + 1) = r by have := HC.out; rw [show ((n : Int) + 1).toNat = n + 1 by omega] at this; exact this)
            obtain ⟨j, hj⟩ := lastUp_some (HV.out n t0 ht0) (m := vs.length) (by rw [HVL.out]; omega)
            have hlk := (HV2.out.look Try.underlying102 (zeroI _) (HW.out t0 (List.mem_of_getElem? ht0))).2
            rw [HS0.out.at_, hj] at hlk
            try simp only [Option.map_some, Option.getD_some] at hlk
            have HTS := Lib.hid (tst_last (HV.out n t0 ht0))
            rw [hj] at HTS
            obtain ⟨uv, hu⟩ : ∃ u, t0.v = u := ⟨_, rfl⟩
            rw [hu] at c1 hlk
            clear ht0 hu hz hj
            by_cases he : j = n
            · have he2 : ((j : Int) == (n : Int)) = true := by rw [he]; simp
              have HN := Lib.hid (show r = n + 1 by
                have h1 := HST.out
                rw [show q - (n + 1) = (q - (n + 1 + 1)) + 1 by omega] at h1
                unfold cutAt at h1
                rw [HTS.out, he] at h1
                simpa using h1.symm)
              clear he
              go_wp2
              go_ret
              exact ⟨by rw [HN.out]; first | rfl | simp, HB2.out⟩
            · have he2 : ((j : Int) == (n : Int)) = false := beq_eq_false_iff_ne.2 (by omega)
              have HN := Lib.hid (show cutAt (tst vs) q (q - (n + 1 + 1)) (n + 1 + 1) = r by
                have h1 := HST.out
                rw [show q - (n + 1) = (q - (n + 1 + 1)) + 1 by omega] at h1
                unfold cutAt at h1
                rw [HTS.out, if_neg (by simpa using he)] at h1
                exact h1)
              clear he
              go_wp2
              go_roundw
              case rel => exact ⟨(n : Int) + 1 + 1, by omega, by go_num, by rw [show ((n : Int) + 1 + 1).toNat = n + 1 + 1 by omega]; exact HN.out, HV2.out, HB2.out⟩
              case measure => simp [intOf]; omega
          · have HN := Lib.hid (show r = q by have h1 := HC.out; rw [show q - z.toNat = 0 by omega] at h1; exact h1.symm)
            go_wp2
            go_ret
            exact ⟨by rw [HN.out]; rfl, HB2.out⟩
      · obtain rfl : z0 = most := by rw [HZ.out, if_neg hm]
        go_wp2
        go_loopw [8] (fun kk wr => ∃ z : Int, 1 ≤ z ∧ kk = .int .i64 z ∧ cutAt (tst vs) q (q - z.toNat) z.toNat = r ∧ Vm wr w.heap.size D ∧ Below w.heap.size w wr) (fun kk _ => ((q : Int) - intOf kk).toNat)
        case atStart => exact ⟨_, hz1, (by first | rfl | (congr 1 <;> omega)), HR0.out, HVM.out, HB.out⟩
        case round =>
          obtain ⟨z, hz, rfl, hc, hv, hB⟩ := hrel
          have HC := Lib.hid hc
          have HV2 := Lib.hid hv
          have HB2 := Lib.hid hB
          clear hc hv hB
          by_cases hzl : z < (q : Int)
          · obtain ⟨n, rfl⟩ : ∃ n : Nat, z = (n : Int) + 1 := ⟨(z - 1).toNat, by omega⟩
            have hnl : n + 1 < q := by omega
            obtain ⟨t0, ht0⟩ : ∃ t, xs[n]? = some t := ⟨xs[n]'(by rw [HI.out.hlen]; omega), List.getElem?_eq_getElem _⟩
            obtain ⟨rfl, hbl⟩ := HI.out.addr (by omega)
            obtain ⟨_, c1, _, _⟩ := (HI.out.below HB2.out (fun _ => hbl)).cell n t0 ht0
            have HST := Lib.hid (show cutAt (tst vs) q (q - (n + 1)) (n + 1) = r by have := HC.out; rw [show ((n : Int) + 1).toNat = n + 1 by omega] at this; exact this)
            obtain ⟨j, hj⟩ := lastUp_some (HV.out n t0 ht0) (m := vs.length) (by rw [HVL.out]; omega)
            have hlk := (HV2.out.look Try.underlying102 (zeroI _) (HW.out t0 (List.mem_of_getElem? ht0))).2
            rw [HS0.out.at_, hj] at hlk
            try simp only [Option.map_some, Option.getD_some] at hlk
            have HTS := Lib.hid (tst_last (HV.out n t0 ht0))
            rw [hj] at HTS
            obtain ⟨uv, hu⟩ : ∃ u, t0.v = u := ⟨_, rfl⟩
            rw [hu] at c1 hlk
            clear ht0 hu hz hj
            by_cases he : j = n
            · have he2 : ((j : Int) == (n : Int)) = true := by rw [he]; simp
              have HN := Lib.hid (show r = n + 1 by
                have h1 := HST.out
                rw [show q - (n + 1) = (q - (n + 1 + 1)) + 1 by omega] at h1
                unfold cutAt at h1
                rw [HTS.out, he] at h1
                simpa using h1.symm)
              clear he
              go_wp2
              go_ret
              exact ⟨by rw [HN.out]; first | rfl | simp, HB2.out⟩
            · have he2 : ((j : Int) == (n : Int)) = false := beq_eq_false_iff_ne.2 (by omega)
              have HN := Lib.hid (show cutAt (tst vs) q (q - (n + 1 + 1)) (n + 1 + 1) = r by
                have h1 := HST.out
                rw [show q - (n + 1) = (q - (n + 1 + 1)) + 1 by omega] at h1
                unfold cutAt at h1
                rw [HTS.out, if_neg (by simpa using he)] at h1
                exact h1)
              clear he
              go_wp2
              go_roundw
              case rel => exact ⟨(n : Int) + 1 + 1, by omega, by go_num, by rw [show ((n : Int) + 1 + 1).toNat = n + 1 + 1 by omega]; exact HN.out, HV2.out, HB2.out⟩
              case measure => simp [intOf]; omega
          · have HN := Lib.hid (show r = q by have h1 := HC.out; rw [show q - z.toNat = 0 by omega] at h1; exact h1.symm)
            go_wp2
            go_ret
            exact ⟨by rw [HN.out]; rfl, HB2.out⟩
end Go.Proofs.Ythcjbljkokflgaa
