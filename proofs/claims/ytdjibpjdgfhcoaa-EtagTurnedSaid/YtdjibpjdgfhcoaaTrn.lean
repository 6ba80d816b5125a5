/- EtagTurned's walk. -/
import Derived.Test.YtdjibpjdgfhcoaaBac
import Derived.Test.YtdjibpjdgfhcoaaTurn
import Derived.Deep.QuietTactic
import Derived.BigQuiet
import Derived.Laws.BitsAllLaws
import Derived.Lib.IndexBytes
import Derived.Deep.RegionWith
namespace Go.Proofs.Ytdjibpjdgfhcoaa
open Go.RowKit
set_option linter.unusedVariables false
theorem turned_prs (T : ByteArray) (v : Int) (K q : Nat) (hv : 1 ≤ v) (hd : T.data.toList = shL v.toNat) (k1 : 1 ≤ K) (k2 : K < T.size - 1) (k4 : K < (shL v.toNat).length) (hq : q < 32) (hne : ix ((shL v.toNat)[K]'k4) % 31 ≠ (q : Int) % 31) (r : Int) :
    prs ((T.extract 0 K ++ ByteArray.mk #[sg q]) ++ T.extract (K + 1) T.size) ≠ (r, true) := by
  intro h
  obtain ⟨h1, h2, _⟩ := prs_true h
  have e1 := shw_data h2
  rw [h1] at e1
  have hl : T.size = (shL v.toNat).length := by rw [Lib.size_eq, hd]
  have e2 : ((T.extract 0 K ++ ByteArray.mk #[sg q]) ++ T.extract (K + 1) T.size).data.toList = (shL v.toNat).set K (sg q) := by
    rw [List.set_eq_take_append_cons_drop, if_pos k4]
    have a := Lib.extract_data T 0 K
    have b := Lib.extract_to_end T (K + 1)
    rw [hd] at a b
    simp only [List.drop_zero, Nat.sub_zero] at a
    rw [← a, ← b]
    simp
  rw [e2] at e1
  exact turned v.toNat r.toNat K q k1 (by omega) hq hne e1
theorem sg_at : ∀ k (hk : k < sgS.size), sgS[k] = sg k := by decide +kernel
theorem one_index (x : Nat) (hx : x < 32) (w : World) : (Instr.index 9 (.string { data := #[48, 49, 50, 51, 52, 53, 54, 55, 56, 57, 97, 98, 99, 100, 101, 102, 103, 104, 106, 107, 109, 110, 112, 113, 114, 115, 116, 118, 119, 120, 121, 122] }) (.int .i64 (x : Int))).run Try.prog w = .ok (.int .u8 ((sg x).toNat : Int)) w := by
  have h := run_index_string (P := Try.prog) w 9 sgS .i64 (x : Int) Try.underlying9
  have hsz : sgS.size = 32 := rfl
  rw [dif_pos ⟨by omega, by rw [hsz]; omega⟩] at h
  simp only [Int.toNat_natCast] at h
  have e : sgS[x]'(by rw [hsz]; exact hx) = sg x := sg_at x (by rw [hsz]; exact hx)
  refine h.trans ?_
  rw [e]
theorem and_bv (a : Int) (k : Nat) (hk : k < 64) : (BitVec.ofInt 64 a &&& BitVec.ofInt 64 ((2 ^ k - 1 : Nat) : Int)).toNat < 2 ^ k := by
  have h0 : (BitVec.ofInt 64 ((2 ^ k - 1 : Nat) : Int)).toNat = 2 ^ k - 1 := by
    rw [BitVec.ofInt_natCast, BitVec.toNat_ofNat]
    refine Nat.mod_eq_of_lt ?_
    have : 2 ^ k ≤ 2 ^ 64 := Nat.pow_le_pow_right (by decide) (by omega)
    have : 0 < 2 ^ k := Nat.pos_of_ne_zero (by simp)
    omega
  rw [BitVec.toNat_and, h0]
  have : 0 < 2 ^ k := Nat.pos_of_ne_zero (by simp)
  have := @Nat.and_le_right (BitVec.ofInt 64 a).toNat (2 ^ k - 1)
  omega
theorem and_mask (a : Int) (k : Nat) (hk : k < 64) : ∃ m : Nat, m < 2 ^ k ∧ bits .and .i64 a ((2 ^ k - 1 : Nat) : Int) = (m : Int) := by
  have h1 := and_bv a k hk
  have h2 : 2 ^ k ≤ 2 ^ 63 := Nat.pow_le_pow_right (by decide) (by omega)
  have h3 : bits .and .i64 a ((2 ^ k - 1 : Nat) : Int) = IntKind.i64.wrap ((BitVec.ofInt 64 a &&& BitVec.ofInt 64 ((2 ^ k - 1 : Nat) : Int)).toNat : Int) := rfl
  rw [h3]
  generalize (BitVec.ofInt 64 a &&& BitVec.ofInt 64 ((2 ^ k - 1 : Nat) : Int)).toNat = X at *
  exact ⟨X, h1, IntWalk.i64_in _ (by omega)⟩
set_option maxRecDepth 100000 in
set_option maxHeartbeats 1600000 in
theorem turned_in (v a b : Int) (w : World) (h1 : 1 ≤ v) (v2 : v ≤ 9223372036854775807) :
    Calls Try.prog 6 #[.int .i64 v, .int .i64 a, .int .i64 b] w fun e w' => e = .returned (.bool true) ∧ Below w.heap.size w w' := by
  obtain ⟨m, hm1, hm⟩ := and_mask a 16 (by omega)
  obtain ⟨q, hq1, hq⟩ := and_mask b 5 (by omega)
  simp only [show ((2 ^ 16 - 1 : Nat) : Int) = 65535 by decide] at hm
  simp only [show ((2 ^ 5 - 1 : Nat) : Int) = 31 by decide] at hq
  have CV := Lib.hid (fun W => show_any v W (by omega) v2)
  have h4 := shw_len h1 v2
  have hsz := shw_size v v2
  have hd := shw_data h1
  obtain ⟨T, hT⟩ : ∃ T, T = shw v := ⟨_, rfl⟩
  rw [← hT] at CV h4 hsz hd
  have HD := Lib.hid hd
  have HT := Lib.hid hT
  clear hd hT
  have s1 : (0 : Int) < (T.size : Int) - 2 := by omega
  have r0 : 0 ≤ (m : Int) % ((T.size : Int) - 2) := Int.emod_nonneg _ (by omega)
  have r1 : (m : Int) % ((T.size : Int) - 2) < (T.size : Int) - 2 := Int.emod_lt_of_pos _ (by omega)
  obtain ⟨K, hK⟩ : ∃ K : Nat, 1 + (m : Int) % ((T.size : Int) - 2) = (K : Int) := ⟨(1 + (m : Int) % ((T.size : Int) - 2)).toNat, by omega⟩
  have k1 : 1 ≤ K := by omega
  have k2 : K < T.size - 1 := by omega
  have k3 : K < T.size := by omega
  have hlen : T.size = (shL v.toNat).length := by rw [Lib.size_eq, HD.out]
  have k4 : K < (shL v.toNat).length := hlen ▸ k3
  have hTK : T[K] = (shL v.toNat)[K]'k4 := by
    have e : T.data.toList[K]? = some T[K] := by rw [List.getElem?_eq_getElem (by rw [← Lib.size_eq]; exact k3)]; rfl
    rw [HD.out, List.getElem?_eq_getElem (by omega)] at e
    injection e with e; exact e.symm
  have hge : 0 ≤ ix T[K] := by rw [hTK]; exact sh_digit _ _ k1 (by omega)
  have hle := ix_lt T[K]
  obtain ⟨c, hc⟩ : ∃ c, c = T[K] := ⟨_, rfl⟩
  rw [← hc] at hge hle
  have HK := Lib.hid hTK
  clear hTK
  have HC := Lib.hid hc
  have HX : Hid (∀ i : Nat, i < 32 → sgL[i]? = some c → ix c = (i : Int)) := fun i hi e => by
    have e2 : sg i = c := by unfold sg; rw [List.getD_eq_getElem?_getD, e]; rfl
    rw [← e2]; exact ix_sg i hi
  have HY : Hid (∃ i : Nat, i < 32 ∧ sgL[i]? = some c) := by
    obtain ⟨i, hi⟩ : ∃ i : Nat, ix c = (i : Int) := ⟨(ix c).toNat, by omega⟩
    exact ⟨i, by omega, (Lib.indexByte_some hi).1⟩
  clear hc
  have HLEN := Lib.hid hlen
  clear hlen
  go_enter Try.func6, Try.ntmps6
  go_wp2_with fail
  refine (first_any _).mono ?_; rintro _ w1 ⟨rfl, hb1⟩
  have B1 := Lib.hid hb1
  clear hb1
  go_wp2_with fail
  refine (CV.out _).mono ?_; rintro _ w' ⟨rfl, rfl⟩
  go_wp2_with fail
  clear hK
  go_loopw [10, 11] (fun p i wr => ∃ (x : Nat) (y : Int) (n : Nat), x ≤ 32 ∧ i = .int .i64 x ∧ p = .int .i64 y ∧ wr = w1.drewN n ∧ Hid ((y = -1 ∧ ∀ j, j < x → sgL[j]? ≠ some c) ∨ y = ix c)) (fun _ i _ => 32 - (intOf i).toNat)
  case atStart => exact ⟨0, -1, 0, by omega, rfl, rfl, rfl, .inl ⟨rfl, fun j h => absurd h (by omega)⟩⟩
  case round =>
    obtain ⟨x, y, n, hx, rfl, rfl, rfl, hr⟩ := hrel
    by_cases hlt : x < 32
    · have hx2 : (x : Int) < 32 := by omega
      have hx3 : (0 : Int) ≤ (x : Int) := by omega
      have hk4 : (0 : Int) ≤ (K : Int) := by omega
      have hk5 : (K : Int) < (T.size : Int) := by omega
      have hix := one_index x hlt
      have hsg : sgL[x]? = some (sg x) := by unfold sg; rw [List.getD_eq_getElem?_getD, List.getElem?_eq_getElem (by exact hlt)]; rfl
      by_cases he : sg x = c
      · have hb : (((sg x).toNat : Int) == (T[K].toNat : Int)) = true := by rw [he, HC.out]; simp
        have HN : Hid ((x : Int) = ix c) := by show _ = _; exact (HX.out x hlt (by rw [hsg, he])).symm
        clear he hsg
        go_wp2_with fail
        go_quiet (fail)
        go_wp2
        exact ⟨⟨x + 1, _, _, by omega, by go_num, rfl, rfl, .inr HN.out⟩, by simp [intOf]; omega⟩
      · have hb : (((sg x).toNat : Int) == (T[K].toNat : Int)) = false := by
          rw [beq_eq_false_iff_ne, ← HC.out]; intro h; exact he (UInt8.toNat_inj.1 (by omega))
        have HN : Hid ((y = -1 ∧ ∀ j, j < x + 1 → sgL[j]? ≠ some c) ∨ y = ix c) := by
          rcases hr.out with ⟨h, h'⟩ | h
          · refine .inl ⟨h, fun j hj => ?_⟩
            rcases Nat.lt_or_ge j x with g | g
            · exact h' j g
            · obtain rfl : j = x := by omega
              rw [hsg]; intro e; injection e with e; exact he e
          · exact .inr h
        clear he hsg
        go_wp2_with fail
        go_quiet (fail)
        go_wp2
        exact ⟨⟨x + 1, _, _, by omega, by go_num, rfl, rfl, HN⟩, by simp [intOf]; omega⟩
    · have hx2 : ¬ (x : Int) < 32 := by omega
      have hy : y = ix c := by
        rcases hr.out with ⟨_, h'⟩ | h
        · obtain ⟨i, hi, e⟩ := HY.out
          exact absurd e (h' i (by omega))
        · exact h
      clear hr
      subst hy
      have hq2 : ((q : Int)) % 31 = (q : Int) % 31 := rfl
      clear hq2
      have p1 : (0 : Int) ≤ (q : Int) := by omega
      have p2 : (q : Int) ≤ 31 := by omega
      by_cases hd : ix c % 31 = (q : Int) % 31
      · have hb : (ix c % 31 == (q : Int) % 31) = true := by simpa using hd
        clear hd
        go_wp2_with fail
        go_ret
        exact ⟨by first | rfl | (simp; done) | (simp; omega), below_drewN B1.out _⟩
      · have hb : (ix c % 31 == (q : Int) % 31) = false := by simpa using hd
        have HD2 := Lib.hid hd
        clear hd
        have PN := Lib.hid (turned_prs T v K q h1 HD.out k1 k2 k4 hq1 (by rw [← HK.out, ← HC.out]; exact HD2.out))
        have e0 : (T.extract 0 K).size = K := by rw [Lib.size_eq, Lib.extract_data, List.length_take, List.length_drop, ← Lib.size_eq]; omega
        have e1 : (T.extract (K + 1) T.size).size = T.size - (K + 1) := by rw [Lib.size_eq, Lib.extract_to_end, List.length_drop, ← Lib.size_eq]
        have e2 : ((T.extract 0 K ++ ByteArray.mk #[sg q]) ++ T.extract (K + 1) T.size).size ≤ 1000 := by
          rw [ByteArray.size_append, ByteArray.size_append, e0, e1, one_size]; omega
        have CP := Lib.hid (fun W => parse_any ((T.extract 0 K ++ ByteArray.mk #[sg q]) ++ T.extract (K + 1) T.size) W e2)
        obtain ⟨r, ok, hr⟩ : ∃ r ok, prs ((T.extract 0 K ++ ByteArray.mk #[sg q]) ++ T.extract (K + 1) T.size) = (r, ok) := ⟨_, _, rfl⟩
        have hok : ok = false := by
          cases ok
          · rfl
          · exact absurd hr (PN.out r)
        subst hok
        simp only [hr] at CP
        clear hr e2
        have hsl := one_sign (q : Int) p1 (by omega)
        simp only [Int.toNat_natCast] at hsl
        have hz := one_size (sg q)
        have g1 : (0 : Int) ≤ (K : Int) := by omega
        have g2 : (K : Int) ≤ (T.size : Int) := by omega
        have g3 : (0 : Int) ≤ (K : Int) + 1 := by omega
        have g4 : (K : Int) + 1 ≤ (T.size : Int) := by omega
        have hw1 : IntKind.i64.wrap ((q : Int) + 1) = (q : Int) + 1 := IntWalk.i64_in _ (by omega)
        have hw2 : IntKind.i64.wrap ((K : Int) + 1) = (K : Int) + 1 := IntWalk.i64_in _ (by omega)
        go_wp2_with fail
        go_region_with (go_at_call 8; refine (CP.out _).mono ?_; rintro _ w' ⟨rfl, rfl⟩)
        all_goals go_wp2
        all_goals go_ret
        all_goals exact ⟨by first | rfl | (simp; done), below_drewN B1.out _⟩

theorem etagTurned_walk (w : World) (a0 : Int) (w0 : (Lit.int .i64 a0).wf = true) (a1 : Int) (w1 : (Lit.int .i64 a1).wf = true) (a2 : Int) (w2 : (Lit.int .i64 a2).wf = true) :
    Calls Try.prog 6 #[.int .i64 a0, .int .i64 a1, .int .i64 a2] w fun e w' => e = .returned (.bool true) ∧ Below w.heap.size w w' := by
  by_cases h : a0 < 1
  · have CV := Lib.hid (fun W => show_any a0 W (wf_i64' w0).1 (wf_i64' w0).2)
    rw [shw_lt h] at CV
    go_enter Try.func6, Try.ntmps6
    go_wp2_with fail
    refine (first_any _).mono ?_; rintro _ w1 ⟨rfl, hb1⟩
    have B1 := Lib.hid hb1
    clear hb1
    go_wp2_with fail
    refine (CV.out _).mono ?_; rintro _ w' ⟨rfl, rfl⟩
    go_wp2
    go_ret
    exact ⟨by first | rfl | (simp; done), B1.out⟩
  · exact turned_in _ _ _ _ (by omega) (wf_i64' w0).2
end Go.Proofs.Ytdjibpjdgfhcoaa
