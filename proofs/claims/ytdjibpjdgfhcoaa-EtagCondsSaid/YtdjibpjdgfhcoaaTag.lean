/- The document's tags. -/
import Derived.Test.YtdjibpjdgfhcoaaShow
import Derived.Lib.IndexLaws
namespace Go.Proofs.Ytdjibpjdgfhcoaa
open Go.RowKit
set_option linter.unusedVariables false
theorem ix_none (c : UInt8) (h : ∀ j, j < 32 → sgL[j]? ≠ some c) : ix c = -1 := by
  have h1 := ix_ge c
  rcases Int.lt_or_le (ix c) 0 with h2 | h2
  · omega
  · obtain ⟨k, hk⟩ : ∃ k : Nat, ix c = (k : Int) := ⟨(ix c).toNat, by omega⟩
    have := ix_lt c
    exact absurd (Lib.indexByte_some hk).1 (h k (by omega))
theorem ix_some (c : UInt8) (k : Nat) (h : ∀ j, j < k → sgL[j]? ≠ some c) (hc : sgL[k]? = some c) : ix c = (k : Int) := by
  have h1 := ix_ge c
  rcases Int.lt_or_le (ix c) 0 with h2 | h2
  · exact absurd hc (Lib.indexByte_none (show Lib.indexByte sgL c = -1 by show ix c = -1; omega) k)
  · obtain ⟨m, hm⟩ : ∃ m : Nat, ix c = (m : Int) := ⟨(ix c).toNat, by omega⟩
    have h3 := Lib.indexByte_some hm
    rw [hm]
    rcases Nat.lt_trichotomy m k with q | q | q
    · exact absurd h3.1 (h m q)
    · rw [q]
    · exact absurd hc (h3.2 k q)
theorem sgS_at : ∀ j (hj : j < sgS.size), sgL[j]? = some sgS[j] := by decide +kernel
set_option maxHeartbeats 400000 in
theorem place_any (c : UInt8) (w : World) : Calls Try.prog 21 #[.int .u8 (c.toNat : Int)] w fun e w' => e = .returned (.int .i64 (ix c)) ∧ w = w' := by
  obtain ⟨S, hS⟩ : ∃ S, S = sgS := ⟨_, rfl⟩
  have hsz : S.size = 32 := by rw [hS]; rfl
  have HL : Hid (∀ j (hj : j < S.size), sgL[j]? = some S[j]) := by rw [hS]; exact sgS_at
  have C := Lib.hid (fun W => digits_any W)
  rw [← hS] at C
  have HSZ := Lib.hid hsz
  clear hS
  go_enter Try.func21, Try.ntmps21
  go_wp2_with fail
  refine (C.out _).mono ?_; rintro e w' ⟨rfl, rfl⟩
  go_wp2_with fail
  go_loop [4] (fun i => ∃ k : Nat, k ≤ S.size ∧ i = .int .i64 k ∧ Hid (∀ j, j < k → sgL[j]? ≠ some c)) (fun i => S.size - (intOf i).toNat)
  case atStart => exact ⟨0, Nat.zero_le _, rfl, fun j h => absurd h (by omega)⟩
  case round =>
    obtain ⟨k, hk, rfl, hno⟩ := hrel
    by_cases hlt : k < S.size
    · by_cases he : S[k] = c
      · have hb : ((S[k].toNat : Int) == (c.toNat : Int)) = true := by rw [he]; simp
        have HI := Lib.hid (ix_some c k hno.out (by rw [HL.out k hlt, he]))
        clear he
        go_wp2
        go_ret
        exact ⟨ret_i64 HI.out.symm, rfl⟩
      · have hb : ((S[k].toNat : Int) == (c.toNat : Int)) = false := by
          rw [beq_eq_false_iff_ne]; intro h; exact he (UInt8.toNat_inj.1 (by omega))
        have HN : Hid (∀ j, j < k + 1 → sgL[j]? ≠ some c) := fun j hj => by
          rcases Nat.lt_or_ge j k with q | q
          · exact hno.out j q
          · obtain rfl : j = k := by omega
            rw [HL.out j hlt]
            intro e; injection e with e; exact he e
        clear he
        go_wp2
        exact ⟨⟨k + 1, by omega, by go_num, HN⟩, by simp [intOf]; omega⟩
    · have HI := Lib.hid (ix_none c (fun j hj => hno.out j (by omega)))
      clear hsz
      go_wp2
      go_ret
      exact ⟨ret_i64 HI.out.symm, rfl⟩
set_option maxHeartbeats 1600000 in
theorem tag_any (v : Int) (w : World) (h1 : -9223372036854775808 ≤ v) (h2 : v ≤ 9223372036854775807) :
    Calls Try.prog 15 #[.int .i64 v] w fun e w' => e = .returned (.string (shw v)) ∧ w = w' := by
  by_cases hv : v < 1
  · have HS := Lib.hid (shw_lt hv)
    go_enter Try.func15, Try.ntmps15
    go_wp2
    go_ret
    exact ⟨ret_str HS.out.symm, rfl⟩
  · obtain ⟨m, rfl⟩ : ∃ m : Nat, v = (m : Int) := ⟨v.toNat, by omega⟩
    have D := Lib.hid (fun W => digits_any W)
    go_enter Try.func15, Try.ntmps15
    go_wp2
    go_loop [3, 4] (fun d x => ∃ (n : Nat) (s : ByteArray), n ≤ m ∧ x = .int .i64 n ∧ d = .string s ∧ Hid (digs n ++ s.data.toList = digs m)) (fun _ x => (intOf x).toNat)
    case atStart => exact ⟨m, ⟨#[]⟩, Nat.le_refl _, rfl, rfl, by show _ = _; simp⟩
    case round =>
      obtain ⟨n, s, hn, rfl, rfl, hr⟩ := hrel
      have hsz := digs_size hr.out
      by_cases h0 : 0 < n
      · have HR := Lib.hid (step_rel h0 (by omega) hr.out)
        have hsl := one_sign ((n : Int) % 32) (by omega) (by omega)
        have hcast : ((n : Int) % 32).toNat = n % 32 := by omega
        rw [hcast] at hsl
        have hz := one_size (sg (n % 32))
        have hq : (n : Int) / 32 = ((n / 32 : Nat) : Int) := by omega
        have HQ := Lib.hid hq
        clear hcast hq
        go_wp2_with fail
        refine (D.out _).mono ?_; rintro e w' ⟨rfl, rfl⟩
        unfold sgS
        go_wp2
        exact ⟨⟨n / 32, _, by omega, by rw [← HQ.out], rfl, HR⟩, by simp [intOf]; omega⟩
      · obtain rfl : n = 0 := by omega
        have hd : s.data.toList = digs m := by have := hr.out; rwa [digs_zero, List.nil_append] at this
        have HD := Lib.hid hd
        have HF := Lib.hid (shw_ge m (by omega) s hd)
        clear hd
        go_wp2_with fail
        go_loop [5, 6] (fun v i => ∃ k : Nat, k ≤ s.size ∧ i = .int .i64 k ∧ v = .int .i64 (chk (s.data.toList.take k))) (fun _ i => s.size - (intOf i).toNat)
        case atStart => exact ⟨0, Nat.zero_le _, rfl, rfl⟩
        case round =>
          obtain ⟨k, hk, rfl, rfl⟩ := hrel
          obtain ⟨r1, r2⟩ := chk_rng (s.data.toList.take k)
          by_cases hlt : k < s.size
          · have i1 := ix_lt s[k]
            have i0 : 0 ≤ ix s[k] := digs_all m _ (by rw [← HD.out]; show s.data[k] ∈ _; simp)
            have HS := Lib.hid (take_snoc s k hlt)
            go_wp2_with fail
            refine (place_any s[k] _).mono ?_; rintro e w' ⟨rfl, rfl⟩
            go_wp2
            exact ⟨⟨k + 1, by omega, by go_num, by rw [HS.out, chk_snoc]; rfl⟩, by simp [intOf]; omega⟩
          · have HS := Lib.hid (take_all s k hlt)
            have hsl := one_sign (chk (s.data.toList.take k)) r1 (by omega)
            have hz := one_size (sg (chk (s.data.toList.take k)).toNat)
            go_wp2_with fail
            refine (D.out _).mono ?_; rintro e w' ⟨rfl, rfl⟩
            unfold sgS
            go_wp2
            go_ret
            exact ⟨ret_str (by rw [HS.out]; exact HF.out), rfl⟩
end Go.Proofs.Ytdjibpjdgfhcoaa
