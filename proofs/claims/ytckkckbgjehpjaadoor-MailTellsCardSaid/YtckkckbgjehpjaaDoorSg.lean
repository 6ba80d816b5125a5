/- The reference's sign. -/
import Derived.Test.YtckkckbgjehpjaaDoorSm
namespace Go.Proofs.YtckkckbgjehpjaaDoor
open Go.RowKit
open Go.Lib hiding intOf
set_option linter.unusedVariables false
set_option maxRecDepth 20000
theorem drop_getD (s : ByteArray) (i j : Nat) (h : i + j < s.size) : (s.data.toList.drop i).getD j 0 = s[i + j] := by
  rw [List.getD_eq_getElem?_getD, List.getElem?_drop, List.getElem?_eq_getElem (by simpa using h)]; rfl
theorem drop_getD0 (s : ByteArray) (i : Nat) (h : i < s.size) : (s.data.toList.drop i).getD 0 0 = s[i] := drop_getD s i 0 h
theorem top_cont (b : UInt8) (h : 128 ≤ b.toNat ∧ b.toNat ≤ 191) : bits .and .u8 (b.toNat : Int) 192 = 128 := by
  rw [and_top]; omega
theorem top_not (b : UInt8) (h : ¬ (128 ≤ b.toNat ∧ b.toNat ≤ 191)) : ∃ q : Int, bits .and .u8 (b.toNat : Int) 192 = q ∧ (q != 128) = true := by
  refine ⟨_, rfl, ?_⟩
  rw [and_top]
  simp only [bne_iff_ne, ne_eq]
  omega
set_option maxHeartbeats 4000000 in
theorem sign_2 (s : ByteArray) (hs : s.size ≤ 1000000) (i : Nat) (hi : i < s.size) (h1 : 194 ≤ (s[i].toNat : Int)) (h2 : (s[i].toNat : Int) ≤ 223) (w : World) :
    Calls Tryd.prog 32 #[.string s, .int .i64 (i : Int)] w fun e w' => e = .returned (.int .i64 (signN (s.data.toList.drop i) : Int)) ∧ w' = w := by
  obtain ⟨r, hr⟩ : ∃ r, signN (s.data.toList.drop i) = r := ⟨_, rfl⟩
  rw [hr]
  have HR := Lib.hid hr
  clear hr
  have e1 := and_31 s[i]
  obtain ⟨v0, hv0⟩ : ∃ v0, s[i].toNat % 32 = v0 := ⟨_, rfl⟩
  rw [hv0] at e1
  have HV := Lib.hid hv0
  have hv : v0 < 32 := by omega
  clear hv0
  have HC0 := Lib.hid (drop_getD0 s i hi)
  by_cases hl : (s.size : Int) - (i : Int) < 2
  · have H0 := Lib.hid (show r = 0 by rw [← HR.out]; exact signN_short _ 2 (by rw [HC0.out]; omega) (.inl (by simp; omega)))
    go_enter Tryd.func32, Tryd.ntmps32
    go_wp2
    go_ret
    exact ⟨by rw [H0.out]; rfl, rfl⟩
  · have HL := Lib.hid (signN_long (s.data.toList.drop i) 2 128 v0 (by rw [HC0.out]; have := HV.out; omega) (by simp; omega))
    have HSh := Lib.hid (signN_short (s.data.toList.drop i) 2 (by rw [HC0.out]; omega))
    obtain ⟨l, hdl⟩ : ∃ l, s.data.toList.drop i = l := ⟨_, rfl⟩
    rw [hdl] at HL HSh HR
    have HG := Lib.hid (fun j h => hdl ▸ drop_getD s i j h)
    clear hdl HC0
    go_enter Tryd.func32, Tryd.ntmps32
    go_wp2
    go_loop [8, 9] (fun v k => ∃ j : Nat, j ≤ 2 - 1 ∧ k = .int .i64 ((j : Int) + 1) ∧ v = .int .i64 (vS l v0 j : Int) ∧ ∀ m, 1 ≤ m → m ≤ j → cont l m) (fun _ k => (2 - intOf k).toNat)
    case atStart => exact ⟨0, by omega, rfl, rfl, fun m h1 h2 => absurd h1 (by omega)⟩
    case round =>
      obtain ⟨j, hj, rfl, rfl, hc⟩ := hrel
      have HC := Lib.hid hc
      clear hc
      have hV3 := vS_lt l v0 hv j (by omega)
      have HVS := Lib.hid (show vS l v0 (j + 1) = vS l v0 j * 64 + (l.getD (j + 1) 0).toNat % 64 from rfl)
      obtain ⟨V, hV⟩ : ∃ V, vS l v0 j = V := ⟨_, rfl⟩
      rw [hV] at hV3 HVS
      simp only [hV]
      have HVV := Lib.hid hV
      clear hV
      have hVI : (V : Int) < 8388608 := by
        have : (64 : Nat) ^ j ≤ 64 ^ 3 := Nat.pow_le_pow_right (by decide) (by omega)
        have : (64 : Nat) ^ 3 = 262144 := by decide
        omega
      have HV2 := Lib.hid (show (j : Int) + 1 < 2 → V ≤ 1000000 by
        intro h
        have : (64 : Nat) ^ j ≤ 64 ^ 2 := Nat.pow_le_pow_right (by decide) (by omega)
        have : (64 : Nat) ^ 2 = 4096 := by decide
        omega)
      clear hV3
      by_cases hlt : (j : Int) + 1 < 2
      · have hx : i + (j + 1) < s.size := by omega
        have HB := Lib.hid (HG.out (j + 1) hx)
        obtain ⟨c, hcc⟩ : ∃ c, s[i + (j + 1)] = c := ⟨_, rfl⟩
        rw [hcc] at HB
        by_cases hct : 128 ≤ c.toNat ∧ c.toNat ≤ 191
        · have e2 := top_cont _ hct
          have e3 := and_63 c
          obtain ⟨b, hb⟩ : ∃ b, c.toNat % 64 = b := ⟨_, rfl⟩
          rw [hb] at e3
          have hb64 : b < 64 := by omega
          have HCT := Lib.hid hct
          have HBB := Lib.hid hb
          clear hct hb
          have e4 : bits .or .i64 ((V : Int) * 64) (b : Int) = (V : Int) * 64 + (b : Int) := or_join 6 _ _ (by omega) (by omega) (by omega) (by omega) (by omega) (by omega)
          have hV2 : (V : Int) ≤ 1000000 := by have := HV2.out hlt; omega
          clear hVI
          go_wp2
          exact ⟨⟨j + 1, by omega, by go_num, by rw [HVS.out, HB.out, HBB.out]; go_num, fun m h1 h2 => by
            by_cases hm : m ≤ j
            · exact HC.out m h1 hm
            · obtain rfl : m = j + 1 := by omega
              unfold cont; rw [HB.out]; exact HCT.out⟩, by simp [intOf]; omega⟩
        · obtain ⟨q, e2, hq⟩ := top_not _ hct
          have H0 := Lib.hid (show r = 0 by rw [← HR.out]; exact HSh.out (.inr ⟨j + 1, by omega, by omega, by unfold cont; rw [HB.out]; exact hct⟩))
          clear hct hVI
          go_wp2
          go_ret
          exact ⟨by rw [H0.out]; rfl, rfl⟩
      · obtain rfl : j = 2 - 1 := by omega
        have HE := Lib.hid (HL.out (fun m h1 h2 => HC.out m h1 (by omega)))
        rw [HVV.out] at HE
        by_cases a1 : (V : Int) < 128
        · have H0 := Lib.hid (show r = 0 by rw [← HR.out]; exact HE.out.2 (by unfold fine; omega))
          go_wp2
          go_ret
          exact ⟨by rw [H0.out]; rfl, rfl⟩
        · by_cases a2 : (V : Int) > 1114111
          · have H0 := Lib.hid (show r = 0 by rw [← HR.out]; exact HE.out.2 (by unfold fine; omega))
            go_wp2
            go_ret
            exact ⟨by rw [H0.out]; rfl, rfl⟩
          · by_cases a3 : (V : Int) ≥ 55296
            · by_cases a4 : (V : Int) ≤ 57343
              · have H0 := Lib.hid (show r = 0 by rw [← HR.out]; exact HE.out.2 (by unfold fine; omega))
                go_wp2
                go_ret
                exact ⟨by rw [H0.out]; rfl, rfl⟩
              · have H0 := Lib.hid (show r = 2 by rw [← HR.out]; exact HE.out.1 (by unfold fine; omega))
                go_wp2
                go_ret
                exact ⟨by rw [H0.out]; rfl, rfl⟩
            · have H0 := Lib.hid (show r = 2 by rw [← HR.out]; exact HE.out.1 (by unfold fine; omega))
              go_wp2
              go_ret
              exact ⟨by rw [H0.out]; rfl, rfl⟩
set_option maxHeartbeats 4000000 in
theorem sign_3 (s : ByteArray) (hs : s.size ≤ 1000000) (i : Nat) (hi : i < s.size) (h1 : 224 ≤ (s[i].toNat : Int)) (h2 : (s[i].toNat : Int) ≤ 239) (w : World) :
    Calls Tryd.prog 32 #[.string s, .int .i64 (i : Int)] w fun e w' => e = .returned (.int .i64 (signN (s.data.toList.drop i) : Int)) ∧ w' = w := by
  obtain ⟨r, hr⟩ : ∃ r, signN (s.data.toList.drop i) = r := ⟨_, rfl⟩
  rw [hr]
  have HR := Lib.hid hr
  clear hr
  have e1 := and_15 s[i]
  obtain ⟨v0, hv0⟩ : ∃ v0, s[i].toNat % 16 = v0 := ⟨_, rfl⟩
  rw [hv0] at e1
  have HV := Lib.hid hv0
  have hv : v0 < 32 := by omega
  clear hv0
  have HC0 := Lib.hid (drop_getD0 s i hi)
  by_cases hl : (s.size : Int) - (i : Int) < 3
  · have H0 := Lib.hid (show r = 0 by rw [← HR.out]; exact signN_short _ 3 (by rw [HC0.out]; omega) (.inl (by simp; omega)))
    go_enter Tryd.func32, Tryd.ntmps32
    go_wp2
    go_ret
    exact ⟨by rw [H0.out]; rfl, rfl⟩
  · have HL := Lib.hid (signN_long (s.data.toList.drop i) 3 2048 v0 (by rw [HC0.out]; have := HV.out; omega) (by simp; omega))
    have HSh := Lib.hid (signN_short (s.data.toList.drop i) 3 (by rw [HC0.out]; omega))
    obtain ⟨l, hdl⟩ : ∃ l, s.data.toList.drop i = l := ⟨_, rfl⟩
    rw [hdl] at HL HSh HR
    have HG := Lib.hid (fun j h => hdl ▸ drop_getD s i j h)
    clear hdl HC0
    go_enter Tryd.func32, Tryd.ntmps32
    go_wp2
    go_loop [8, 9] (fun v k => ∃ j : Nat, j ≤ 3 - 1 ∧ k = .int .i64 ((j : Int) + 1) ∧ v = .int .i64 (vS l v0 j : Int) ∧ ∀ m, 1 ≤ m → m ≤ j → cont l m) (fun _ k => (3 - intOf k).toNat)
    case atStart => exact ⟨0, by omega, rfl, rfl, fun m h1 h2 => absurd h1 (by omega)⟩
    case round =>
      obtain ⟨j, hj, rfl, rfl, hc⟩ := hrel
      have HC := Lib.hid hc
      clear hc
      have hV3 := vS_lt l v0 hv j (by omega)
      have HVS := Lib.hid (show vS l v0 (j + 1) = vS l v0 j * 64 + (l.getD (j + 1) 0).toNat % 64 from rfl)
      obtain ⟨V, hV⟩ : ∃ V, vS l v0 j = V := ⟨_, rfl⟩
      rw [hV] at hV3 HVS
      simp only [hV]
      have HVV := Lib.hid hV
      clear hV
      have hVI : (V : Int) < 8388608 := by
        have : (64 : Nat) ^ j ≤ 64 ^ 3 := Nat.pow_le_pow_right (by decide) (by omega)
        have : (64 : Nat) ^ 3 = 262144 := by decide
        omega
      have HV2 := Lib.hid (show (j : Int) + 1 < 3 → V ≤ 1000000 by
        intro h
        have : (64 : Nat) ^ j ≤ 64 ^ 2 := Nat.pow_le_pow_right (by decide) (by omega)
        have : (64 : Nat) ^ 2 = 4096 := by decide
        omega)
      clear hV3
      by_cases hlt : (j : Int) + 1 < 3
      · have hx : i + (j + 1) < s.size := by omega
        have HB := Lib.hid (HG.out (j + 1) hx)
        obtain ⟨c, hcc⟩ : ∃ c, s[i + (j + 1)] = c := ⟨_, rfl⟩
        rw [hcc] at HB
        by_cases hct : 128 ≤ c.toNat ∧ c.toNat ≤ 191
        · have e2 := top_cont _ hct
          have e3 := and_63 c
          obtain ⟨b, hb⟩ : ∃ b, c.toNat % 64 = b := ⟨_, rfl⟩
          rw [hb] at e3
          have hb64 : b < 64 := by omega
          have HCT := Lib.hid hct
          have HBB := Lib.hid hb
          clear hct hb
          have e4 : bits .or .i64 ((V : Int) * 64) (b : Int) = (V : Int) * 64 + (b : Int) := or_join 6 _ _ (by omega) (by omega) (by omega) (by omega) (by omega) (by omega)
          have hV2 : (V : Int) ≤ 1000000 := by have := HV2.out hlt; omega
          clear hVI
          go_wp2
          exact ⟨⟨j + 1, by omega, by go_num, by rw [HVS.out, HB.out, HBB.out]; go_num, fun m h1 h2 => by
            by_cases hm : m ≤ j
            · exact HC.out m h1 hm
            · obtain rfl : m = j + 1 := by omega
              unfold cont; rw [HB.out]; exact HCT.out⟩, by simp [intOf]; omega⟩
        · obtain ⟨q, e2, hq⟩ := top_not _ hct
          have H0 := Lib.hid (show r = 0 by rw [← HR.out]; exact HSh.out (.inr ⟨j + 1, by omega, by omega, by unfold cont; rw [HB.out]; exact hct⟩))
          clear hct hVI
          go_wp2
          go_ret
          exact ⟨by rw [H0.out]; rfl, rfl⟩
      · obtain rfl : j = 3 - 1 := by omega
        have HE := Lib.hid (HL.out (fun m h1 h2 => HC.out m h1 (by omega)))
        rw [HVV.out] at HE
        by_cases a1 : (V : Int) < 2048
        · have H0 := Lib.hid (show r = 0 by rw [← HR.out]; exact HE.out.2 (by unfold fine; omega))
          go_wp2
          go_ret
          exact ⟨by rw [H0.out]; rfl, rfl⟩
        · by_cases a2 : (V : Int) > 1114111
          · have H0 := Lib.hid (show r = 0 by rw [← HR.out]; exact HE.out.2 (by unfold fine; omega))
            go_wp2
            go_ret
            exact ⟨by rw [H0.out]; rfl, rfl⟩
          · by_cases a3 : (V : Int) ≥ 55296
            · by_cases a4 : (V : Int) ≤ 57343
              · have H0 := Lib.hid (show r = 0 by rw [← HR.out]; exact HE.out.2 (by unfold fine; omega))
                go_wp2
                go_ret
                exact ⟨by rw [H0.out]; rfl, rfl⟩
              · have H0 := Lib.hid (show r = 3 by rw [← HR.out]; exact HE.out.1 (by unfold fine; omega))
                go_wp2
                go_ret
                exact ⟨by rw [H0.out]; rfl, rfl⟩
            · have H0 := Lib.hid (show r = 3 by rw [← HR.out]; exact HE.out.1 (by unfold fine; omega))
              go_wp2
              go_ret
              exact ⟨by rw [H0.out]; rfl, rfl⟩
set_option maxHeartbeats 4000000 in
theorem sign_4 (s : ByteArray) (hs : s.size ≤ 1000000) (i : Nat) (hi : i < s.size) (h1 : 240 ≤ (s[i].toNat : Int)) (h2 : (s[i].toNat : Int) ≤ 244) (w : World) :
    Calls Tryd.prog 32 #[.string s, .int .i64 (i : Int)] w fun e w' => e = .returned (.int .i64 (signN (s.data.toList.drop i) : Int)) ∧ w' = w := by
  obtain ⟨r, hr⟩ : ∃ r, signN (s.data.toList.drop i) = r := ⟨_, rfl⟩
  rw [hr]
  have HR := Lib.hid hr
  clear hr
  have e1 := and_7 s[i]
  obtain ⟨v0, hv0⟩ : ∃ v0, s[i].toNat % 8 = v0 := ⟨_, rfl⟩
  rw [hv0] at e1
  have HV := Lib.hid hv0
  have hv : v0 < 32 := by omega
  clear hv0
  have HC0 := Lib.hid (drop_getD0 s i hi)
  by_cases hl : (s.size : Int) - (i : Int) < 4
  · have H0 := Lib.hid (show r = 0 by rw [← HR.out]; exact signN_short _ 4 (by rw [HC0.out]; omega) (.inl (by simp; omega)))
    go_enter Tryd.func32, Tryd.ntmps32
    go_wp2
    go_ret
    exact ⟨by rw [H0.out]; rfl, rfl⟩
  · have HL := Lib.hid (signN_long (s.data.toList.drop i) 4 65536 v0 (by rw [HC0.out]; have := HV.out; omega) (by simp; omega))
    have HSh := Lib.hid (signN_short (s.data.toList.drop i) 4 (by rw [HC0.out]; omega))
    obtain ⟨l, hdl⟩ : ∃ l, s.data.toList.drop i = l := ⟨_, rfl⟩
    rw [hdl] at HL HSh HR
    have HG := Lib.hid (fun j h => hdl ▸ drop_getD s i j h)
    clear hdl HC0
    go_enter Tryd.func32, Tryd.ntmps32
    go_wp2
    go_loop [8, 9] (fun v k => ∃ j : Nat, j ≤ 4 - 1 ∧ k = .int .i64 ((j : Int) + 1) ∧ v = .int .i64 (vS l v0 j : Int) ∧ ∀ m, 1 ≤ m → m ≤ j → cont l m) (fun _ k => (4 - intOf k).toNat)
    case atStart => exact ⟨0, by omega, rfl, rfl, fun m h1 h2 => absurd h1 (by omega)⟩
    case round =>
      obtain ⟨j, hj, rfl, rfl, hc⟩ := hrel
      have HC := Lib.hid hc
      clear hc
      have hV3 := vS_lt l v0 hv j (by omega)
      have HVS := Lib.hid (show vS l v0 (j + 1) = vS l v0 j * 64 + (l.getD (j + 1) 0).toNat % 64 from rfl)
      obtain ⟨V, hV⟩ : ∃ V, vS l v0 j = V := ⟨_, rfl⟩
      rw [hV] at hV3 HVS
      simp only [hV]
      have HVV := Lib.hid hV
      clear hV
      have hVI : (V : Int) < 8388608 := by
        have : (64 : Nat) ^ j ≤ 64 ^ 3 := Nat.pow_le_pow_right (by decide) (by omega)
        have : (64 : Nat) ^ 3 = 262144 := by decide
        omega
      have HV2 := Lib.hid (show (j : Int) + 1 < 4 → V ≤ 1000000 by
        intro h
        have : (64 : Nat) ^ j ≤ 64 ^ 2 := Nat.pow_le_pow_right (by decide) (by omega)
        have : (64 : Nat) ^ 2 = 4096 := by decide
        omega)
      clear hV3
      by_cases hlt : (j : Int) + 1 < 4
      · have hx : i + (j + 1) < s.size := by omega
        have HB := Lib.hid (HG.out (j + 1) hx)
        obtain ⟨c, hcc⟩ : ∃ c, s[i + (j + 1)] = c := ⟨_, rfl⟩
        rw [hcc] at HB
        by_cases hct : 128 ≤ c.toNat ∧ c.toNat ≤ 191
        · have e2 := top_cont _ hct
          have e3 := and_63 c
          obtain ⟨b, hb⟩ : ∃ b, c.toNat % 64 = b := ⟨_, rfl⟩
          rw [hb] at e3
          have hb64 : b < 64 := by omega
          have HCT := Lib.hid hct
          have HBB := Lib.hid hb
          clear hct hb
          have e4 : bits .or .i64 ((V : Int) * 64) (b : Int) = (V : Int) * 64 + (b : Int) := or_join 6 _ _ (by omega) (by omega) (by omega) (by omega) (by omega) (by omega)
          have hV2 : (V : Int) ≤ 1000000 := by have := HV2.out hlt; omega
          clear hVI
          go_wp2
          exact ⟨⟨j + 1, by omega, by go_num, by rw [HVS.out, HB.out, HBB.out]; go_num, fun m h1 h2 => by
            by_cases hm : m ≤ j
            · exact HC.out m h1 hm
            · obtain rfl : m = j + 1 := by omega
              unfold cont; rw [HB.out]; exact HCT.out⟩, by simp [intOf]; omega⟩
        · obtain ⟨q, e2, hq⟩ := top_not _ hct
          have H0 := Lib.hid (show r = 0 by rw [← HR.out]; exact HSh.out (.inr ⟨j + 1, by omega, by omega, by unfold cont; rw [HB.out]; exact hct⟩))
          clear hct hVI
          go_wp2
          go_ret
          exact ⟨by rw [H0.out]; rfl, rfl⟩
      · obtain rfl : j = 4 - 1 := by omega
        have HE := Lib.hid (HL.out (fun m h1 h2 => HC.out m h1 (by omega)))
        rw [HVV.out] at HE
        by_cases a1 : (V : Int) < 65536
        · have H0 := Lib.hid (show r = 0 by rw [← HR.out]; exact HE.out.2 (by unfold fine; omega))
          go_wp2
          go_ret
          exact ⟨by rw [H0.out]; rfl, rfl⟩
        · by_cases a2 : (V : Int) > 1114111
          · have H0 := Lib.hid (show r = 0 by rw [← HR.out]; exact HE.out.2 (by unfold fine; omega))
            go_wp2
            go_ret
            exact ⟨by rw [H0.out]; rfl, rfl⟩
          · by_cases a3 : (V : Int) ≥ 55296
            · by_cases a4 : (V : Int) ≤ 57343
              · have H0 := Lib.hid (show r = 0 by rw [← HR.out]; exact HE.out.2 (by unfold fine; omega))
                go_wp2
                go_ret
                exact ⟨by rw [H0.out]; rfl, rfl⟩
              · have H0 := Lib.hid (show r = 4 by rw [← HR.out]; exact HE.out.1 (by unfold fine; omega))
                go_wp2
                go_ret
                exact ⟨by rw [H0.out]; rfl, rfl⟩
            · have H0 := Lib.hid (show r = 4 by rw [← HR.out]; exact HE.out.1 (by unfold fine; omega))
              go_wp2
              go_ret
              exact ⟨by rw [H0.out]; rfl, rfl⟩
set_option maxHeartbeats 2000000 in
theorem sign_any (s : ByteArray) (hs : s.size ≤ 1000000) (i : Nat) (hi : i < s.size) (w : World) :
    Calls Tryd.prog 32 #[.string s, .int .i64 (i : Int)] w fun e w' => e = .returned (.int .i64 (signN (s.data.toList.drop i) : Int)) ∧ w' = w := by
  have hb := s[i].toNat_lt
  have HC0 := Lib.hid (drop_getD0 s i hi)
  rcases (show (s[i].toNat : Int) < 128 ∨ (128 ≤ (s[i].toNat : Int) ∧ (s[i].toNat : Int) < 194) ∨ (194 ≤ (s[i].toNat : Int) ∧ (s[i].toNat : Int) ≤ 223) ∨ (224 ≤ (s[i].toNat : Int) ∧ (s[i].toNat : Int) ≤ 239) ∨ (240 ≤ (s[i].toNat : Int) ∧ (s[i].toNat : Int) ≤ 244) ∨ 245 ≤ (s[i].toNat : Int) by omega) with h | ⟨h1, h2⟩ | ⟨h1, h2⟩ | ⟨h1, h2⟩ | ⟨h1, h2⟩ | h
  · rw [signN_low _ (by rw [HC0.out]; omega)]
    go_enter Tryd.func32, Tryd.ntmps32
    go_wp2
    go_ret
    exact ⟨rfl, rfl⟩
  · rw [signN_bad _ (by rw [HC0.out]; omega)]
    go_enter Tryd.func32, Tryd.ntmps32
    go_wp2
    go_ret
    exact ⟨rfl, rfl⟩
  · exact sign_2 s hs i hi h1 h2 w
  · exact sign_3 s hs i hi h1 h2 w
  · exact sign_4 s hs i hi h1 h2 w
  · rw [signN_bad _ (by rw [HC0.out]; omega)]
    go_enter Tryd.func32, Tryd.ntmps32
    go_wp2
    go_ret
    exact ⟨rfl, rfl⟩
end Go.Proofs.YtckkckbgjehpjaaDoor
