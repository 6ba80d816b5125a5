/- Telephone numbers: the reference's Tel, ShowTel, bare, Match. -/
import Derived.Test.YtiikmkeolfdjiaaDoorTr
namespace Go.Proofs.YtiikmkeolfdjiaaDoor
open Go.RowKit
open Go.Lib hiding intOf
set_option linter.unusedVariables false
set_option maxRecDepth 20000
theorem cut_one (s : ByteArray) (k : Nat) (h : k < s.size) : (s.extract k (k + 1)).data.toList = [s[k]] := by
  have hl : k < s.data.toList.length := by simpa using h
  have : (s.extract k (k + 1)).data.toList = (s.data.toList.drop k).take 1 := by simp
  rw [this, List.drop_eq_getElem_cons hl]
  rfl
theorem cut_size (s : ByteArray) (k : Nat) (h : k < s.size) : (s.extract k (k + 1)).size = 1 := by
  rw [ByteArray.size_extract]; omega
theorem one_cut (s : ByteArray) (k : Nat) (h : k < s.size) (W : World) : (Instr.slice 9 (.string s) (some (.int .i64 (k : Int))) (some (.int .i64 ((k : Int) + 1))) none).run Tryd.prog W = .ok (.string (s.extract k (k + 1))) W := by
  have h := run_slice_string (P := Tryd.prog) (w := W) 9 s .i64 .i64 (k : Int) ((k : Int) + 1) Tryd.underlying9 (by omega) (by omega) (by omega)
  rw [h]
  congr 2
theorem app_list (a b : ByteArray) : (a ++ b).data.toList = a.data.toList ++ b.data.toList := by simp [ByteArray.data_append]
set_option maxHeartbeats 8000000 in
theorem rtel_any (s : ByteArray) (hs : s.size ≤ 1000000) (w : World) : Calls Tryd.prog 8 #[.string s] w fun e w' => e = .returned (.tuple #[.string (telS s).1, .int .i64 (telS s).2]) ∧ Below w.heap.size w w' := by
  have hC := rclean_any s hs w
  have htz : (cleanS s).1.size ≤ 1000000 := by
    unfold cleanS cleanOf
    have h1 := sq_len s.data.toList
    have h2 : (squeezeS s).size ≤ 1000000 := by rw [squeezeS_sq]; show (sq s.data.toList).toArray.size ≤ _; simp at h1 ⊢; omega
    repeat' split
    all_goals first | (show (squeezeS s).size ≤ 1000000; omega) | (show (0 : Nat) ≤ 1000000; omega)
  obtain ⟨r, hr⟩ : ∃ r, telS s = r := ⟨_, rfl⟩
  rw [hr]
  have hrr : r = telOf (cleanS s).1 (cleanS s).2 := by rw [← hr]; rfl
  clear hr
  obtain ⟨⟨t, k⟩, ht⟩ : ∃ t, cleanS s = t := ⟨_, rfl⟩
  rw [ht] at hC htz hrr
  simp only at hC htz hrr
  have HC := Lib.hid hC
  have HR := Lib.hid hrr
  have HI := Lib.hid ristel_any
  clear hC ht hrr
  have htI : (t.size : Int) ≤ 1000000 := by omega
  by_cases hk : k = 0
  · subst hk
    have HR2 := Lib.hid (show r = if telB (bareL t.data.toList) = true then (⟨(bareL t.data.toList).toArray⟩, 0) else (⟨#[]⟩, 1) by rw [HR.out]; rfl)
    clear HR
    go_enter Tryd.func8, Tryd.ntmps8
    go_wp2_with (go_at_call 18; (with_reducible refine (HC.out).mono ?_); rintro e w1 ⟨rfl, h1⟩; have HB1 := Lib.hid h1; clear h1)
    go_loop [6, 7] (fun o i => ∃ k : Nat, ∃ O : ByteArray, k ≤ t.size ∧ i = .int .i64 (k : Int) ∧ o = .string O ∧ O.data.toList = bareL (t.data.toList.take k) ∧ (O.size : Int) ≤ (k : Int)) (fun _ i => t.size - (intOf i).toNat)
    case atStart => exact ⟨0, ⟨#[]⟩, Nat.zero_le _, rfl, rfl, rfl, by show ((0 : Nat) : Int) ≤ 0; omega⟩
    case round =>
      obtain ⟨k, O, hk, rfl, rfl, hO, hOz⟩ := hrel
      have HO := Lib.hid hO
      clear hO
      by_cases hlt : k < t.size
      · have HSN := Lib.hid (bare_snoc t k hlt)
        have HCU := Lib.hid (cut_one t k hlt)
        have hcut := one_cut t k hlt
        have hcz : ((t.extract k (k + 1)).size : Int) = 1 := by rw [cut_size t k hlt]; rfl
        obtain ⟨c, hc⟩ : ∃ c, t[k] = c := ⟨_, rfl⟩
        rw [hc] at HSN HCU
        have hc8 : (c.toNat : Int) ≤ 255 := by have := c.toNat_lt; omega
        have HAL := Lib.hid (app_list O (t.extract k (k + 1)))
        have HAZ := Lib.hid (show (O ++ t.extract k (k + 1)).size = O.size + (t.extract k (k + 1)).size from ByteArray.size_append)
        rcases (show (c.toNat : Int) = 32 ∨ (c.toNat : Int) = 45 ∨ (c.toNat : Int) = 46 ∨ (c.toNat : Int) = 47 ∨ (c.toNat : Int) = 40 ∨ (c.toNat : Int) = 41 ∨ ((c.toNat : Int) ≠ 32 ∧ (c.toNat : Int) ≠ 45 ∧ (c.toNat : Int) ≠ 46 ∧ (c.toNat : Int) ≠ 47 ∧ (c.toNat : Int) ≠ 40 ∧ (c.toNat : Int) ≠ 41) by omega) with h | h | h | h | h | h | ⟨n1, n2, n3, n4, n5, n6⟩
        iterate 6
          · have hcc : betw c = true := by
              have e : c = UInt8.ofNat c.toNat := by simp
              have e2 : c.toNat = ((c.toNat : Int)).toNat := rfl
              rw [e, e2, h]; decide
            have HE := Lib.hid (show O.data.toList = bareL (t.data.toList.take (k + 1)) by rw [HSN.out, show bareL [c] = [] by simp [bareL, hcc], List.append_nil, HO.out])
            clear hcc hcz hcut
            go_wp2
            exact ⟨⟨k + 1, O, by omega, by go_num, rfl, HE.out, by omega⟩, by simp [intOf]; omega⟩
        · have hcc : betw c = false := by
            cases e : betw c with
            | false => rfl
            | true =>
              unfold betw at e
              simp only [Bool.or_eq_true, beq_iff_eq] at e
              rcases e with ((((e | e) | e) | e) | e) | e <;> subst e
              · exact absurd rfl n1
              · exact absurd rfl n2
              · exact absurd rfl n3
              · exact absurd rfl n4
              · exact absurd rfl n5
              · exact absurd rfl n6
          have m1 : ((c.toNat : Int) == 32) = false := by simpa using n1
          have m2 : ((c.toNat : Int) == 45) = false := by simpa using n2
          have m3 : ((c.toNat : Int) == 46) = false := by simpa using n3
          have m4 : ((c.toNat : Int) == 47) = false := by simpa using n4
          have m5 : ((c.toNat : Int) == 40) = false := by simpa using n5
          have m6 : ((c.toNat : Int) == 41) = false := by simpa using n6
          have HE := Lib.hid (show (O ++ t.extract k (k + 1)).data.toList = bareL (t.data.toList.take (k + 1)) by rw [HSN.out, show bareL [c] = [c] by simp [bareL, hcc], HAL.out, HO.out, HCU.out])
          have hOI : (O.size : Int) ≤ 1000000 := by omega
          have HCZ := Lib.hid hcz
          clear n1 n2 n3 n4 n5 n6 hcc
          go_wp2
          exact ⟨⟨k + 1, O ++ t.extract k (k + 1), by omega, by go_num, rfl, HE.out, by rw [HAZ.out]; have := HCZ.out; omega⟩, by simp [intOf]; omega⟩
      · have hks : k = t.size := by omega
        subst hks
        have HO2 := Lib.hid (show O.data.toList = bareL t.data.toList by rw [HO.out, List.take_of_length_le (by simp)])
        have HIO := Lib.hid (fun w => HI.out O (by omega) w)
        cases hb : telB O.data.toList with
        | true =>
          rw [hb] at HIO
          have H0 := Lib.hid (show r = (O, 0) by
            rw [HR2.out, ← HO2.out, if_pos hb])
          clear hb
          go_wp2_with (go_at_call 10; (with_reducible refine (HIO.out _).mono ?_); rintro e w3 ⟨rfl, hw⟩; replace hw := hw.symm; subst hw)
          go_ret2
          exact ⟨by rw [H0.out]; rfl, HB1.out⟩
        | false =>
          rw [hb] at HIO
          have H0 := Lib.hid (show r = (⟨#[]⟩, 1) by
            rw [HR2.out, ← HO2.out, if_neg (by rw [hb]; decide)])
          clear hb
          go_wp2_with (go_at_call 10; (with_reducible refine (HIO.out _).mono ?_); rintro e w3 ⟨rfl, hw⟩; replace hw := hw.symm; subst hw)
          go_ret2
          exact ⟨by rw [H0.out]; rfl, HB1.out⟩
  · have hk' : (k != 0) = true := by simpa using hk
    have H0 := Lib.hid (show r = (⟨#[]⟩, k) by rw [HR.out]; unfold telOf; rw [if_neg hk])
    clear hk
    go_enter Tryd.func8, Tryd.ntmps8
    go_wp2_with (go_at_call 18; (with_reducible refine (HC.out).mono ?_); rintro e w1 ⟨rfl, h1⟩; have HB1 := Lib.hid h1; clear h1)
    go_ret2
    exact ⟨by rw [H0.out]; rfl, HB1.out⟩
end Go.Proofs.YtiikmkeolfdjiaaDoor
