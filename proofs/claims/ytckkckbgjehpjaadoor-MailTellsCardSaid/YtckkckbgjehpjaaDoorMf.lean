/- Addresses: the reference's Parts, IsMail, Mail, SameMail: their walks. -/
import Derived.Test.YtckkckbgjehpjaaDoorMe
import Derived.Deep.RegionWith
import Derived.Deep.QuietTactic
import Derived.BigQuiet
namespace Go.Proofs.YtckkckbgjehpjaaDoor
open Go.RowKit
open Go.Lib hiding intOf
set_option linter.unusedVariables false
set_option maxRecDepth 20000
set_option maxHeartbeats 4000000 in
theorem rparts_any (s : ByteArray) (hs : s.size ≤ 1000000) (w : World) : Calls Tryd.prog 10 #[.string s] w fun e w' => e = .returned (.tuple #[.string (partsS s).1, .string (partsS s).2.1, .bool (partsS s).2.2]) ∧ Below w.heap.size w w' := by
  have hsl : s.data.toList.length = s.size := by simp
  have hls := last_split s.data.toList
  have hpl := fun a b e hb => parts_last s a b e hb
  have hpn := parts_no s
  have HK := Lib.hid (fun k => lastK_range s.data.toList k)
  have HST := Lib.hid (fun k (h : k < s.size) => show lastK s.data.toList (k + 1) = if (s[k].toNat : Int) = 64 then (k : Int) else lastK s.data.toList k by
    have e : s.data.toList.getD k 0 = s[k] := getD_at s k h
    show (if s.data.toList.getD k 0 = 64 then (k : Int) else lastK s.data.toList k) = _
    rw [e]
    by_cases hc : s[k] = 64
    · rw [if_pos hc, if_pos (by rw [hc]; rfl)]
    · rw [if_neg hc, if_neg (show ¬ (s[k].toNat : Int) = 64 from fun e2 => hc (UInt8.toNat_inj.1 (by show s[k].toNat = 64; omega)))])
  obtain ⟨r, hr⟩ : ∃ r, partsS s = r := ⟨_, rfl⟩
  rw [hr] at hpl hpn ⊢
  have HLS := Lib.hid hls
  have HPL := Lib.hid hpl
  have HPN := Lib.hid hpn
  have HSL := Lib.hid hsl
  have hsI : (s.size : Int) ≤ 1000000 := by omega
  have HLc := Lib.hid rlocal_any
  have HDm := Lib.hid rdomain_any
  clear hls hpl hpn hr hsl
  go_enter Tryd.func10, Tryd.ntmps10
  go_wp2
  go_loop [5, 6] (fun a' i => ∃ k : Nat, k ≤ s.size ∧ i = .int .i64 (k : Int) ∧ a' = .int .i64 (lastK s.data.toList k)) (fun _ i => s.size - (intOf i).toNat)
  case atStart => exact ⟨0, Nat.zero_le _, rfl, rfl⟩
  case round =>
    obtain ⟨k, hk, rfl, rfl⟩ := hrel
    by_cases hlt : k < s.size
    · have HS1 := Lib.hid (HST.out k hlt)
      obtain ⟨c, hc⟩ : ∃ c, s[k] = c := ⟨_, rfl⟩
      rw [hc] at HS1
      have hc8 : (c.toNat : Int) ≤ 255 := by have := c.toNat_lt; omega
      obtain ⟨A, hA⟩ : ∃ A, lastK s.data.toList k = A := ⟨_, rfl⟩
      rw [hA] at HS1 ⊢
      clear hA
      by_cases m1 : (c.toNat : Int) = 64
      · have m1' : ((c.toNat : Int) == 64) = true := by rw [m1]; rfl
        have HE := Lib.hid (show (k : Int) = lastK s.data.toList (k + 1) by rw [HS1.out, if_pos m1])
        clear m1
        go_wp2
        exact ⟨⟨k + 1, by omega, by go_num, by rw [← HE.out]⟩, by simp [intOf]; omega⟩
      · have m1' : ((c.toNat : Int) == 64) = false := by simpa using m1
        have HE := Lib.hid (show A = lastK s.data.toList (k + 1) by rw [HS1.out, if_neg m1])
        clear m1
        go_wp2
        exact ⟨⟨k + 1, by omega, by go_num, by rw [← HE.out]⟩, by simp [intOf]; omega⟩
    · have hks : k = s.size := by omega
      subst hks
      have HLS2 := Lib.hid (by have h := HLS.out; rw [HSL.out] at h; exact h)
      clear hlt hk
      rcases HLS2.out with ⟨h1, h2⟩ | ⟨a, b, e, hb, h1⟩
      · have H0 := Lib.hid (HPN.out h2)
        rw [h1]
        clear h1 h2
        go_wp2
        go_ret3
        exact ⟨by rw [H0.out]; rfl, Below.refl _ _⟩
      · rw [h1]
        obtain ⟨n, hn⟩ : ∃ n, a.length = n := ⟨_, rfl⟩
        rw [hn]
        have hsz : s.size = n + 1 + b.length := by
          have := HSL.out
          rw [e] at this; simp at this; omega
        have hR := HPL.out a b e hb
        have hxa : (s.extract 0 n).data.toList = a := by
          have h1 : (s.extract 0 n).data.toList = s.data.toList.take n := by simp
          rw [h1, e, ← hn]; simp
        have hxb : (s.extract (n + 1) s.size).data.toList = b := by
          have h1 : (s.extract (n + 1) s.size).data.toList = s.data.toList.drop (n + 1) := by simp [List.take_of_length_le]
          rw [h1, e, show a ++ 64 :: b = (a ++ [64]) ++ b by simp]
          exact List.drop_left' (by simp [hn])
        have HL2 := Lib.hid (fun w => HLc.out (s.extract 0 n) (by rw [ByteArray.size_extract]; omega) w)
        have HD2 := Lib.hid (fun w => HDm.out (s.extract (n + 1) s.size) (by rw [ByteArray.size_extract]; omega) w)
        rw [hxa] at HL2
        rw [hxb] at HD2
        have ea : (⟨a.toArray⟩ : ByteArray) = s.extract 0 n := bs_ext (by rw [hxa])
        have eb : (⟨b.toArray⟩ : ByteArray) = s.extract (n + 1) s.size := bs_ext (by rw [hxb])
        rw [ea, eb] at hR
        obtain ⟨lo, hlo⟩ : ∃ x, localB a = x := ⟨_, rfl⟩
        obtain ⟨dm, hdm⟩ : ∃ x, domB b = x := ⟨_, rfl⟩
        rw [hlo] at HL2 hR
        rw [hdm] at HD2 hR
        have HR := Lib.hid hR
        have hn1 : (n : Int) ≤ (s.size : Int) - 1 := by omega
        have hwn : IntKind.i64.wrap ((n : Int) + 1) = (n : Int) + 1 := IntWalk.i64_in _ (by omega)
        have hnn : 0 ≤ (n : Int) := by omega
        clear hR hxa hxb ea eb hlo hdm hsz hn h1 e hb
        by_cases h64 : (s.size : Int) > 64
        · have H0 := Lib.hid (show r = (⟨#[]⟩, ⟨#[]⟩, false) by rw [HR.out, decide_eq_false (show ¬ (s.size : Int) ≤ 64 by omega)]; rfl)
          clear hwn
          go_wp2
          go_ret3
          exact ⟨by rw [H0.out]; rfl, Below.refl _ _⟩
        · have HR2 := Lib.hid (show r = if (lo && dm) = true then (s.extract 0 n, s.extract (n + 1) s.size, true) else (⟨#[]⟩, ⟨#[]⟩, false) by rw [HR.out, decide_eq_true (show (s.size : Int) ≤ 64 by omega), Bool.true_and])
          clear HR
          cases lo with
          | false =>
            have H0 := Lib.hid (show r = (⟨#[]⟩, ⟨#[]⟩, false) by rw [HR2.out]; rfl)
            clear hwn
            go_wp2_with (go_at_call 25; (with_reducible refine (HL2.out _).mono ?_); rintro e w1 ⟨rfl, hw⟩; replace hw := hw.symm; subst hw)
            go_ret3
            exact ⟨by rw [H0.out]; rfl, Below.refl _ _⟩
          | true =>
            cases dm with
            | false =>
              have H0 := Lib.hid (show r = (⟨#[]⟩, ⟨#[]⟩, false) by rw [HR2.out]; rfl)
              clear hwn
              go_wp2_with (first | (go_at_call 25; (with_reducible refine (HL2.out _).mono ?_); rintro e w1 ⟨rfl, hw⟩; replace hw := hw.symm; subst hw) | (go_at_call 26; (with_reducible refine (HD2.out _).mono ?_); rintro e w1 ⟨rfl, hw⟩; replace hw := hw.symm; subst hw))
              go_ret3
              exact ⟨by rw [H0.out]; rfl, Below.refl _ _⟩
            | true =>
              have H0 := Lib.hid (show r = (s.extract 0 n, s.extract (n + 1) s.size, true) by rw [HR2.out]; rfl)
              go_wp2_with (first | (go_at_call 25; (with_reducible refine (HL2.out _).mono ?_); rintro e w1 ⟨rfl, hw⟩; replace hw := hw.symm; subst hw) | (go_at_call 26; (with_reducible refine (HD2.out _).mono ?_); rintro e w1 ⟨rfl, hw⟩; replace hw := hw.symm; subst hw))
              go_quiet (fail)
              go_wp2
              go_ret3
              exact ⟨by rw [H0.out]; rfl, by first | exact Below.refl _ _ | exact below_drewN (Below.refl _ _) _⟩
set_option maxHeartbeats 1000000 in
theorem risMail_any (s : ByteArray) (hs : s.size ≤ 1000000) (w : World) : Calls Tryd.prog 12 #[.string s] w fun e w' => e = .returned (.bool (mailB s.data.toList)) ∧ Below w.heap.size w w' := by
  have hP := rparts_any s hs w
  have ho := parts_ok s
  obtain ⟨⟨p, q, b⟩, hr⟩ : ∃ r, partsS s = r := ⟨_, rfl⟩
  rw [hr] at hP ho
  simp only at hP ho
  rw [← ho]
  have HP := Lib.hid hP
  clear hP ho hr
  go_enter Tryd.func12, Tryd.ntmps12
  go_wp2_with (go_at_call 10; (with_reducible refine (HP.out).mono ?_); rintro e w1 ⟨rfl, h1⟩; have HB1 := Lib.hid h1; clear h1)
  go_ret
  exact ⟨rfl, HB1.out⟩
set_option maxHeartbeats 4000000 in
theorem rsame_any (a b : ByteArray) (ha : a.size ≤ 1000000) (hb : b.size ≤ 1000000) (w : World) : Calls Tryd.prog 14 #[.string a, .string b] w fun e w' => e = .returned (.bool (sameB a b)) ∧ Below w.heap.size w w' := by
  have hA : ∀ v, Below w.heap.size w v → Calls Tryd.prog 12 #[.string a] v fun e v' => e = .returned (.bool (mailB a.data.toList)) ∧ Below w.heap.size w v' := fun v h => (risMail_any a ha v).mono (by rintro e v' ⟨rfl, h2⟩; exact ⟨rfl, h.trans (h2.mono h.size)⟩)
  have hB : ∀ v, Below w.heap.size w v → Calls Tryd.prog 12 #[.string b] v fun e v' => e = .returned (.bool (mailB b.data.toList)) ∧ Below w.heap.size w v' := fun v h => (risMail_any b hb v).mono (by rintro e v' ⟨rfl, h2⟩; exact ⟨rfl, h.trans (h2.mono h.size)⟩)
  have hC : ∀ v, Below w.heap.size w v → Calls Tryd.prog 21 #[.string a] v fun e v' => e = .returned (.string (lowS a)) ∧ Below w.heap.size w v' := fun v h => (rfold_any a ha v).mono (by rintro e v' ⟨rfl, h2⟩; exact ⟨rfl, h.trans (h2.mono h.size)⟩)
  have hD : ∀ v, Below w.heap.size w v → Calls Tryd.prog 21 #[.string b] v fun e v' => e = .returned (.string (lowS b)) ∧ Below w.heap.size w v' := fun v h => (rfold_any b hb v).mono (by rintro e v' ⟨rfl, h2⟩; exact ⟨rfl, h.trans (h2.mono h.size)⟩)
  have hr0 : sameB a b = (mailB a.data.toList && mailB b.data.toList && ((lowS a).toList == (lowS b).toList)) := rfl
  obtain ⟨ma, hma⟩ : ∃ x, mailB a.data.toList = x := ⟨_, rfl⟩
  obtain ⟨mb, hmb⟩ : ∃ x, mailB b.data.toList = x := ⟨_, rfl⟩
  obtain ⟨la, hla⟩ : ∃ x, lowS a = x := ⟨_, rfl⟩
  obtain ⟨lb, hlb⟩ : ∃ x, lowS b = x := ⟨_, rfl⟩
  rw [hma, hmb, hla, hlb] at hr0
  rw [hma] at hA
  rw [hmb] at hB
  rw [hla] at hC
  rw [hlb] at hD
  obtain ⟨r, hr⟩ : ∃ r, sameB a b = r := ⟨_, rfl⟩
  rw [hr] at hr0 ⊢
  have HR := Lib.hid hr0
  have HA := Lib.hid hA
  have HB := Lib.hid hB
  have HC := Lib.hid hC
  have HD := Lib.hid hD
  have HB0 := Lib.hid (Below.refl w.heap.size w)
  clear hr0 hr hma hmb hla hlb hA hB hC hD
  cases ma with
  | false =>
    have H0 := Lib.hid (show r = false by rw [HR.out]; rfl)
    go_enter Tryd.func14, Tryd.ntmps14
    go_wp2_with (go_at_call 12; (with_reducible refine (HA.out _ HB0.out).mono ?_); rintro e v1 ⟨rfl, hb⟩; have HB1 := Lib.hid hb; clear hb)
    go_ret
    exact ⟨by rw [H0.out]; rfl, HB1.out⟩
  | true =>
    cases mb with
    | false =>
      have H0 := Lib.hid (show r = false by rw [HR.out]; rfl)
      go_enter Tryd.func14, Tryd.ntmps14
      go_wp2_with (go_at_call 12; (with_reducible refine (HA.out _ HB0.out).mono ?_); rintro e v1 ⟨rfl, hb⟩; have HB1 := Lib.hid hb; clear hb)
      go_wp2_with (go_at_call 12; (with_reducible refine (HB.out _ HB1.out).mono ?_); rintro e v2 ⟨rfl, hb⟩; have HB2 := Lib.hid hb; clear hb)
      go_ret
      exact ⟨by rw [H0.out]; rfl, HB2.out⟩
    | true =>
      have H0 := Lib.hid (show r = (la.toList == lb.toList) by rw [HR.out]; rfl)
      clear HR
      cases he : (la.toList == lb.toList)
      all_goals (
        rw [he] at H0
        go_enter Tryd.func14, Tryd.ntmps14
        go_wp2_with (go_at_call 12; (with_reducible refine (HA.out _ HB0.out).mono ?_); rintro e v1 ⟨rfl, hb⟩; have HB1 := Lib.hid hb; clear hb)
        go_wp2_with (go_at_call 12; (with_reducible refine (HB.out _ HB1.out).mono ?_); rintro e v2 ⟨rfl, hb⟩; have HB2 := Lib.hid hb; clear hb)
        go_wp2_with (go_at_call 21; (with_reducible refine (HC.out _ HB2.out).mono ?_); rintro e v3 ⟨rfl, hb⟩; have HB3 := Lib.hid hb; clear hb)
        go_wp2_with (go_at_call 21; (with_reducible refine (HD.out _ HB3.out).mono ?_); rintro e v4 ⟨rfl, hb⟩; have HB4 := Lib.hid hb; clear hb)
        go_ret
        exact ⟨by rw [H0.out]; rfl, HB4.out⟩)
end Go.Proofs.YtckkckbgjehpjaaDoor
