/- Addresses: the reference's domain. -/
import Derived.Test.YtckkckbgjehpjaaDoorMr
namespace Go.Proofs.YtckkckbgjehpjaaDoor
open Go.RowKit
open Go.Lib hiding intOf
set_option linter.unusedVariables false
set_option maxRecDepth 20000
def piece (s : ByteArray) (f k : Nat) : List UInt8 := (s.data.toList.drop f).take (k - f)
theorem piece_nil (s : ByteArray) (f : Nat) : piece s f f = [] := by unfold piece; simp
theorem piece_snoc (s : ByteArray) (f k : Nat) (hf : f ≤ k) (hk : k < s.size) : piece s f (k + 1) = piece s f k ++ [s[k]] := by
  unfold piece
  have : k + 1 - f = (k - f) + 1 := by omega
  rw [this, List.take_succ_eq_append_getElem (by simp; omega)]
  congr 2
  rw [List.getElem_drop]
  have : f + (k - f) = k := by omega
  simp only [this]; rfl
theorem piece_drop (s : ByteArray) (f k : Nat) (hf : f ≤ k) : s.data.toList.drop f = piece s f k ++ s.data.toList.drop k := by
  unfold piece
  have := (List.take_append_drop (k - f) (s.data.toList.drop f)).symm
  rw [List.drop_drop, show f + (k - f) = k by omega] at this
  exact this
theorem piece_cut (s : ByteArray) (f k : Nat) (hk : k ≤ s.size) : (s.extract f k).data.toList = piece s f k := by
  unfold piece
  rw [ByteArray.data_extract, Array.toList_extract, List.extract_eq_take_drop]
theorem two_cut (s : ByteArray) (f k : Nat) (hf : f ≤ k) (h : k ≤ s.size) (W : World) : (Instr.slice 9 (.string s) (some (.int .i64 (f : Int))) (some (.int .i64 (k : Int))) none).run Tryd.prog W = .ok (.string (s.extract f k)) W := by
  have h := run_slice_string (P := Tryd.prog) (w := W) 9 s .i64 .i64 (f : Int) (k : Int) Tryd.underlying9 (by omega) (by omega) (by omega)
  rw [h]
  congr 2
theorem lab_dot (p : List UInt8) (h : p.all labC = true) : (46 : UInt8) ∉ p := by
  intro hm
  rw [List.all_eq_true] at h
  exact absurd (h 46 hm) (by decide)
/-- What is left to be said behind n labels. -/
def restB (n : Nat) (x : List UInt8) : Bool := decide (2 ≤ (n : Int) + ((splitL x).length : Int)) && (splitL x).all labelB
theorem rest_bad (s : ByteArray) (n f k : Nat) (hf : f ≤ k) (hk : k < s.size) (hp : (piece s f k).all labC = true) (h46 : s[k] ≠ 46) (hc : labC s[k] = false) : restB n (s.data.toList.drop f) = false := by
  unfold restB
  have hd : s.data.toList.drop k = s[k] :: s.data.toList.drop (k + 1) := List.drop_eq_getElem_cons (by simpa using hk)
  obtain ⟨h, r, e1, e2⟩ := split_pre (piece s f k ++ [s[k]]) (s.data.toList.drop (k + 1)) (by
    intro hm
    rcases List.mem_append.1 hm with e | e
    · exact lab_dot _ hp e
    · simp at e; exact h46 e.symm)
  have e3 : s.data.toList.drop f = piece s f k ++ [s[k]] ++ s.data.toList.drop (k + 1) := by rw [piece_drop s f k hf, hd]; simp
  rw [e3, e2]
  have : labelB (piece s f k ++ [s[k]] ++ h) = false := by
    unfold labelB
    rw [Bool.and_eq_false_iff]
    right
    rw [List.all_eq_false]
    exact ⟨s[k], by simp, by rw [hc]; simp⟩
  rw [List.all_cons, this]; simp
theorem rest_dot (s : ByteArray) (n f k : Nat) (hf : f ≤ k) (hk : k < s.size) (hp : (piece s f k).all labC = true) (h46 : s[k] = 46) : restB n (s.data.toList.drop f) = (labelB (piece s f k) && restB (n + 1) (s.data.toList.drop (k + 1))) := by
  have hd : s.data.toList.drop k = s[k] :: s.data.toList.drop (k + 1) := List.drop_eq_getElem_cons (by simpa using hk)
  unfold restB
  rw [piece_drop s f k hf, hd, h46, split_app _ _ (lab_dot _ hp), List.all_cons, List.length_cons]
  have : ((n : Int) + (((splitL (s.data.toList.drop (k + 1))).length + 1 : Nat) : Int)) = (((n + 1 : Nat) : Int) + ((splitL (s.data.toList.drop (k + 1))).length : Int)) := by omega
  rw [this]
  cases labelB (piece s f k) <;> simp
theorem rest_end (s : ByteArray) (n f : Nat) (hf : f ≤ s.size) (hp : (piece s f s.size).all labC = true) : restB n (s.data.toList.drop f) = (labelB (piece s f s.size) && decide (2 ≤ (((n + 1 : Nat)) : Int))) := by
  have hd : s.data.toList.drop s.size = [] := List.drop_of_length_le (by simp)
  unfold restB
  rw [piece_drop s f s.size hf, hd, List.append_nil, split_one _ (lab_dot _ hp)]
  simp
  rw [Bool.and_comm]
theorem label_of (P : ByteArray) (hp : P.data.toList.all labC = true) : (P.size < 1 → labelB P.data.toList = false) ∧ (P.size > 20 → labelB P.data.toList = false) ∧ ∀ m (h : P.size = m + 1), P.size ≤ 20 → labelB P.data.toList = (!((P[0]'(by omega)).toNat == 45) && !((P[m]'(by omega)).toNat == 45)) := by
  have hsl : P.data.toList.length = P.size := by simp
  have h0 : labelB P.data.toList = (decide (1 ≤ (P.size : Int)) && decide ((P.size : Int) ≤ 20) && !(P.data.toList.getD 0 0 == 45) && !(P.data.toList.getD (P.size - 1) 0 == 45)) := by
    unfold labelB; rw [hsl, hp, Bool.and_true]
  refine ⟨fun h => by rw [h0, decide_eq_false (by omega)]; rfl, fun h => by rw [h0, decide_eq_false (show ¬ (P.size : Int) ≤ 20 by omega)]; simp, fun m h h20 => ?_⟩
  rw [h0, decide_eq_true (by omega), decide_eq_true (by omega), show P.size - 1 = m by omega, getD_at P 0 (by omega), getD_at P m (by omega), byte_beq, byte_beq]
  have key : ∀ c : UInt8, ((c.toNat : Int) == ((45 : UInt8).toNat : Int)) = (c.toNat == 45) := by
    intro c
    have : ((45 : UInt8).toNat : Int) = 45 := rfl
    rw [this]
    by_cases e : c.toNat = 45
    · rw [e]; rfl
    · rw [beq_eq_false_iff_ne.2 e, beq_eq_false_iff_ne]; omega
  rw [key, key]; rfl
set_option maxHeartbeats 16000000 in
theorem rdomain_any (s : ByteArray) (hs : s.size ≤ 1000000) (w : World) : Calls Tryd.prog 26 #[.string s] w fun e w' => e = .returned (.bool (domB s.data.toList)) ∧ w' = w := by
  have hr0 : domB s.data.toList = restB 0 (s.data.toList.drop 0) := by unfold domB restB; simp
  obtain ⟨r, hr⟩ : ∃ r, domB s.data.toList = r := ⟨_, rfl⟩
  rw [hr] at hr0 ⊢
  have HR := Lib.hid hr0
  have hsI : (s.size : Int) ≤ 1000000 := by omega
  have HS : Hid True := Lib.hid trivial
  clear hr0 hr
  go_enter Tryd.func26, Tryd.ntmps26
  go_wp2
  go_loop [3, 4, 5] (fun n' f' i => ∃ k n f : Nat, i = .int .i64 (k : Int) ∧ n' = .int .i64 (n : Int) ∧ f' = .int .i64 (f : Int) ∧ n ≤ k ∧ f ≤ k ∧ ((k ≤ s.size ∧ (piece s f k).all labC = true ∧ r = restB n (s.data.toList.drop f)) ∨ (k = s.size + 1 ∧ r = decide (2 ≤ (n : Int))))) (fun _ _ i => s.size + 1 - (intOf i).toNat)
  case atStart => exact ⟨0, 0, 0, rfl, rfl, rfl, by omega, by omega, .inl ⟨by omega, by rw [piece_nil]; rfl, HR.out⟩⟩
  case round =>
    obtain ⟨k, n, f, rfl, rfl, rfl, hn, hf, hrel⟩ := hrel
    rcases hrel with ⟨hk, hpa, hrr⟩ | ⟨hk, hrr⟩
    · have HPA := Lib.hid hpa
      have HRR := Lib.hid hrr
      clear hpa hrr
      have hkI : (k : Int) ≤ (s.size : Int) := by omega
      by_cases hlt : (k : Int) < (s.size : Int)
      · have hk1 : k < s.size := by omega
        have HBAD := Lib.hid (rest_bad s n f k hf hk1 HPA.out)
        have HDOT := Lib.hid (rest_dot s n f k hf hk1 HPA.out)
        have HSN := Lib.hid (piece_snoc s f k hf hk1)
        obtain ⟨c, hc⟩ : ∃ c, s[k] = c := ⟨_, rfl⟩
        rw [hc] at HBAD HDOT HSN
        have hc8 : (c.toNat : Int) ≤ 255 := by have := c.toNat_lt; omega
        by_cases m1 : (c.toNat : Int) = 46
        · have m1' : ((c.toNat : Int) != 46) = false := by rw [m1]; rfl
          have hcut := two_cut s f k hf hk
          have hPl := piece_cut s f k hk
          have hPz : (s.extract f k).size = k - f := by rw [ByteArray.size_extract]; omega
          have HK := Lib.hid (show r = (labelB (s.extract f k).data.toList && restB (n + 1) (s.data.toList.drop (k + 1))) by rw [HRR.out, HDOT.out (byte_of 46 rfl m1), hPl])
          have hPa : (s.extract f k).data.toList.all labC = true := by rw [hPl]; exact HPA.out
          obtain ⟨P, hP⟩ : ∃ P, s.extract f k = P := ⟨_, rfl⟩
          rw [hP] at hcut HK hPa hPz
          have hPI : (P.size : Int) ≤ 1000000 := by omega
          clear m1 hPl hP hPz
          have HP := Lib.hid (label_of P hPa)
          by_cases p1 : (P.size : Int) < 1
          · have H0 := Lib.hid (show r = false by rw [HK.out, HP.out.1 (by omega)]; rfl)
            clear HP
            go_wp2
            go_ret
            exact ⟨by rw [H0.out]; rfl, rfl⟩
          · by_cases p20 : (P.size : Int) > 20
            · have H0 := Lib.hid (show r = false by rw [HK.out, HP.out.2.1 (by omega)]; rfl)
              clear HP
              go_wp2
              go_ret
              exact ⟨by rw [H0.out]; rfl, rfl⟩
            · obtain ⟨m, hm⟩ : ∃ m, P.size = m + 1 := ⟨P.size - 1, by omega⟩
              have hmI : (P.size : Int) - 1 = (m : Int) := by omega
              have hm0 : 0 < P.size := by omega
              have hm1 : m < P.size := by omega
              have HPL := Lib.hid (show labelB P.data.toList = (!((P[0]'hm0).toNat == 45) && !((P[m]'hm1).toNat == 45)) from HP.out.2.2 m hm (by omega))
              clear HP hm
              by_cases u0 : (P[0].toNat : Int) = 45
              · have u0' : ((P[0].toNat : Int) == 45) = true := by rw [u0]; rfl
                have H0 := Lib.hid (show r = false by rw [HK.out, HPL.out, show (P[0].toNat == 45) = true by rw [beq_iff_eq]; omega]; rfl)
                clear u0
                go_wp2
                go_ret
                exact ⟨by rw [H0.out]; rfl, rfl⟩
              · have u0' : ((P[0].toNat : Int) == 45) = false := by simpa using u0
                by_cases u9 : (P[m].toNat : Int) = 45
                · have u9' : ((P[m].toNat : Int) == 45) = true := by rw [u9]; rfl
                  have H0 := Lib.hid (show r = false by rw [HK.out, HPL.out, show (P[m].toNat == 45) = true by rw [beq_iff_eq]; omega]; simp)
                  clear u0 u9
                  go_wp2
                  go_ret
                  exact ⟨by rw [H0.out]; rfl, rfl⟩
                · have u9' : ((P[m].toNat : Int) == 45) = false := by simpa using u9
                  have HNX := Lib.hid (show r = restB (n + 1) (s.data.toList.drop (k + 1)) by
                    rw [HK.out, HPL.out, show (P[0].toNat == 45) = false by rw [beq_eq_false_iff_ne]; omega, show (P[m].toNat == 45) = false by rw [beq_eq_false_iff_ne]; omega]; rfl)
                  clear u0 u9
                  go_wp2
                  exact ⟨⟨k + 1, n + 1, k + 1, by go_num, by go_num, by go_num, by omega, by omega, .inl ⟨by omega, by rw [piece_nil]; rfl, HNX.out⟩⟩, by simp [intOf]; omega⟩
        · have m1' : ((c.toNat : Int) != 46) = true := by simpa using m1
          have h46 : c ≠ 46 := fun e => m1 (by rw [e]; rfl)
          have HLo := Lib.hid (fun w => low_any c w)
          have HDi := Lib.hid (fun w => dig_any c w)
          have HLC := Lib.hid (show labC c = (lowB c || numB c || (c.toNat : Int) == 45) from rfl)
          obtain ⟨lo, hlo⟩ : ∃ b, lowB c = b := ⟨_, rfl⟩
          obtain ⟨di, hdi⟩ : ∃ b, numB c = b := ⟨_, rfl⟩
          rw [hlo, hdi] at HLC
          rw [hlo] at HLo
          rw [hdi] at HDi
          have H46 := Lib.hid h46
          clear hlo hdi h46 m1
          by_cases q : (c.toNat : Int) = 45
          · have q1 : ((c.toNat : Int) == 45) = true := by rw [q]; rfl
            have q2 : ((c.toNat : Int) != 45) = false := by rw [q]; rfl
            have HE := Lib.hid (show (piece s f (k + 1)).all labC = true by rw [HSN.out, List.all_append, HPA.out, List.all_cons, HLC.out, q1]; simp)
            clear q
            cases lo <;> cases di
            all_goals (
              go_wp2_with (first | (go_at_call 40; (with_reducible refine (HLo.out _).mono ?_); rintro e w1 ⟨rfl, hw⟩; replace hw := hw.symm; subst hw) | (go_at_call 41; (with_reducible refine (HDi.out _).mono ?_); rintro e w1 ⟨rfl, hw⟩; replace hw := hw.symm; subst hw))
              exact ⟨⟨k + 1, n, f, by go_num, rfl, rfl, by omega, by omega, .inl ⟨by omega, HE.out, HRR.out⟩⟩, by simp [intOf]; omega⟩)
          · have q1 : ((c.toNat : Int) == 45) = false := by simpa using q
            have q2 : ((c.toNat : Int) != 45) = true := by simpa using q
            clear q
            by_cases hld : (lo || di) = true
            · have HE := Lib.hid (show (piece s f (k + 1)).all labC = true by rw [HSN.out, List.all_append, HPA.out, List.all_cons, HLC.out, hld]; simp)
              cases lo <;> cases di
              case false.false => cases hld
              all_goals (
                clear hld
                go_wp2_with (first | (go_at_call 40; (with_reducible refine (HLo.out _).mono ?_); rintro e w1 ⟨rfl, hw⟩; replace hw := hw.symm; subst hw) | (go_at_call 41; (with_reducible refine (HDi.out _).mono ?_); rintro e w1 ⟨rfl, hw⟩; replace hw := hw.symm; subst hw))
                exact ⟨⟨k + 1, n, f, by go_num, rfl, rfl, by omega, by omega, .inl ⟨by omega, HE.out, HRR.out⟩⟩, by simp [intOf]; omega⟩)
            · have H0 := Lib.hid (show r = false by rw [HRR.out]; exact HBAD.out H46.out (by rw [HLC.out, q1]; cases lo <;> cases di <;> first | rfl | exact absurd rfl hld))
              cases lo <;> cases di
              case false.false =>
                clear hld
                go_wp2_with (first | (go_at_call 40; (with_reducible refine (HLo.out _).mono ?_); rintro e w1 ⟨rfl, hw⟩; replace hw := hw.symm; subst hw) | (go_at_call 41; (with_reducible refine (HDi.out _).mono ?_); rintro e w1 ⟨rfl, hw⟩; replace hw := hw.symm; subst hw))
                go_ret
                exact ⟨by rw [H0.out]; rfl, rfl⟩
              all_goals exact absurd rfl hld
      · have hks : k = s.size := by omega
        have hcut := two_cut s f k hf hk
        have hPl := piece_cut s f k hk
        have hPz : (s.extract f k).size = k - f := by rw [ByteArray.size_extract]; omega
        have HK := Lib.hid (show r = (labelB (s.extract f k).data.toList && decide (2 ≤ (((n + 1 : Nat)) : Int))) by rw [HRR.out, rest_end s n f (by omega) (by rw [← hks]; exact HPA.out), hPl, hks])
        have hPa : (s.extract f k).data.toList.all labC = true := by rw [hPl]; exact HPA.out
        obtain ⟨P, hP⟩ : ∃ P, s.extract f k = P := ⟨_, rfl⟩
        rw [hP] at hcut HK hPa hPz
        have hPI : (P.size : Int) ≤ 1000000 := by omega
        clear hPl hP hPz hks
        have HP := Lib.hid (label_of P hPa)
        by_cases p1 : (P.size : Int) < 1
        · have H0 := Lib.hid (show r = false by rw [HK.out, HP.out.1 (by omega)]; rfl)
          clear HP
          go_wp2
          go_ret
          exact ⟨by rw [H0.out]; rfl, rfl⟩
        · by_cases p20 : (P.size : Int) > 20
          · have H0 := Lib.hid (show r = false by rw [HK.out, HP.out.2.1 (by omega)]; rfl)
            clear HP
            go_wp2
            go_ret
            exact ⟨by rw [H0.out]; rfl, rfl⟩
          · obtain ⟨m, hm⟩ : ∃ m, P.size = m + 1 := ⟨P.size - 1, by omega⟩
            have hmI : (P.size : Int) - 1 = (m : Int) := by omega
            have hm0 : 0 < P.size := by omega
            have hm1 : m < P.size := by omega
            have HPL := Lib.hid (show labelB P.data.toList = (!((P[0]'hm0).toNat == 45) && !((P[m]'hm1).toNat == 45)) from HP.out.2.2 m hm (by omega))
            clear HP hm
            by_cases u0 : (P[0].toNat : Int) = 45
            · have u0' : ((P[0].toNat : Int) == 45) = true := by rw [u0]; rfl
              have H0 := Lib.hid (show r = false by rw [HK.out, HPL.out, show (P[0].toNat == 45) = true by rw [beq_iff_eq]; omega]; rfl)
              clear u0
              go_wp2
              go_ret
              exact ⟨by rw [H0.out]; rfl, rfl⟩
            · have u0' : ((P[0].toNat : Int) == 45) = false := by simpa using u0
              by_cases u9 : (P[m].toNat : Int) = 45
              · have u9' : ((P[m].toNat : Int) == 45) = true := by rw [u9]; rfl
                have H0 := Lib.hid (show r = false by rw [HK.out, HPL.out, show (P[m].toNat == 45) = true by rw [beq_iff_eq]; omega]; simp)
                clear u0 u9
                go_wp2
                go_ret
                exact ⟨by rw [H0.out]; rfl, rfl⟩
              · have u9' : ((P[m].toNat : Int) == 45) = false := by simpa using u9
                have HNX := Lib.hid (show r = decide (2 ≤ (((n + 1 : Nat)) : Int)) by
                  rw [HK.out, HPL.out, show (P[0].toNat == 45) = false by rw [beq_eq_false_iff_ne]; omega, show (P[m].toNat == 45) = false by rw [beq_eq_false_iff_ne]; omega]; rfl)
                clear u0 u9
                go_wp2
                exact ⟨⟨k + 1, n + 1, k + 1, by go_num, by go_num, by go_num, by omega, by omega, .inr ⟨by omega, HNX.out⟩⟩, by simp [intOf]; omega⟩
    · have HRR := Lib.hid hrr
      clear hrr
      have hkI : ¬ (k : Int) ≤ (s.size : Int) := by omega
      go_wp2
      go_ret
      exact ⟨by rw [HRR.out]; rfl, rfl⟩
end Go.Proofs.YtckkckbgjehpjaaDoor
