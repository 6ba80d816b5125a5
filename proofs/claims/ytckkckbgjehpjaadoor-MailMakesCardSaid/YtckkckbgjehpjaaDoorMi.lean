/- Addresses: the law's small and label. -/
import Derived.Test.YtckkckbgjehpjaaDoorMd
namespace Go.Proofs.YtckkckbgjehpjaaDoor
open Go.RowKit
open Go.Lib hiding intOf
set_option linter.unusedVariables false
set_option maxRecDepth 20000
set_option maxHeartbeats 1000000 in
theorem small_any (c : UInt8) (w : World) : Calls Tryd.prog 27 #[.int .u8 (c.toNat : Int)] w fun e w' => e = .returned (.bool (sodB c)) ∧ w' = w := by
  have hc8 : (c.toNat : Int) ≤ 255 := by have := c.toNat_lt; omega
  obtain ⟨r, hr⟩ : ∃ r, sodB c = r := ⟨_, rfl⟩
  rw [hr]
  have HR := Lib.hid (show r = ((decide (97 ≤ (c.toNat : Int)) && decide ((c.toNat : Int) ≤ 122)) || (decide (48 ≤ (c.toNat : Int)) && decide ((c.toNat : Int) ≤ 57))) by rw [← hr]; rfl)
  clear hr
  by_cases u1 : 97 ≤ (c.toNat : Int)
  · by_cases u2 : (c.toNat : Int) ≤ 122
    · have e := Lib.hid (show r = true by rw [HR.out]; simp [u1, u2])
      go_enter Tryd.func27, Tryd.ntmps27
      go_wp2
      go_ret
      exact ⟨by rw [e.out]; rfl, rfl⟩
    · have u2' : decide ((c.toNat : Int) ≤ 122) = false := by simpa using u2
      have u3 : 48 ≤ (c.toNat : Int) := by omega
      have u4 : ¬ (c.toNat : Int) ≤ 57 := by omega
      have u4' : decide ((c.toNat : Int) ≤ 57) = false := by simpa using u4
      have e := Lib.hid (show r = false by rw [HR.out, u2', u4']; simp)
      clear HR
      go_enter Tryd.func27, Tryd.ntmps27
      go_wp2
      go_ret
      exact ⟨by rw [e.out]; rfl, rfl⟩
  · have u1' : decide (97 ≤ (c.toNat : Int)) = false := by simpa using u1
    by_cases u3 : 48 ≤ (c.toNat : Int)
    · by_cases u4 : (c.toNat : Int) ≤ 57
      · have e := Lib.hid (show r = true by rw [HR.out]; simp [u3, u4])
        go_enter Tryd.func27, Tryd.ntmps27
        go_wp2
        go_ret
        exact ⟨by rw [e.out]; rfl, rfl⟩
      · have u4' : decide ((c.toNat : Int) ≤ 57) = false := by simpa using u4
        have e := Lib.hid (show r = false by rw [HR.out, u1', u4']; simp)
        go_enter Tryd.func27, Tryd.ntmps27
        go_wp2
        go_ret
        exact ⟨by rw [e.out]; rfl, rfl⟩
    · have u3' : decide (48 ≤ (c.toNat : Int)) = false := by simpa using u3
      have e := Lib.hid (show r = false by rw [HR.out, u1', u3']; simp)
      go_enter Tryd.func27, Tryd.ntmps27
      go_wp2
      go_ret
      exact ⟨by rw [e.out]; rfl, rfl⟩
def labsB (l : List UInt8) : Bool := (splitL l).all labelB
theorem labs_dot (s : ByteArray) (f k : Nat) (hf : f ≤ k) (hk : k < s.size) (hp : (46 : UInt8) ∉ piece s f k) (h46 : s[k] = 46) : labsB (s.data.toList.drop f) = (labelB (piece s f k) && labsB (s.data.toList.drop (k + 1))) := by
  have hd : s.data.toList.drop k = s[k] :: s.data.toList.drop (k + 1) := List.drop_eq_getElem_cons (by simpa using hk)
  unfold labsB
  rw [piece_drop s f k hf, hd, h46, split_app _ _ hp, List.all_cons]
theorem labs_end (s : ByteArray) (f : Nat) (hf : f ≤ s.size) (hp : (46 : UInt8) ∉ piece s f s.size) : labsB (s.data.toList.drop f) = labelB (piece s f s.size) := by
  have hd : s.data.toList.drop s.size = [] := List.drop_of_length_le (by simp)
  unfold labsB
  rw [piece_drop s f s.size hf, hd, List.append_nil, split_one _ hp]
  simp
theorem piece_len (s : ByteArray) (f k : Nat) (hk : k ≤ s.size) : (piece s f k).length = k - f := by
  unfold piece
  simp; omega
theorem label_piece (s : ByteArray) (f m : Nat) (hf : f ≤ m) (hm : m < s.size) : labelB (piece s f (m + 1)) = (decide ((m : Int) + 1 - (f : Int) ≤ 20) && !((s[f]'(by omega)).toNat == 45) && !(s[m].toNat == 45) && (piece s f (m + 1)).all labC) := by
  have hl := piece_len s f (m + 1) (by omega)
  have g0 : (piece s f (m + 1)).getD 0 0 = s[f]'(by omega) := by
    unfold piece
    rw [List.getD_eq_getElem?_getD, List.getElem?_take_of_lt (by omega), List.getElem?_drop, show f + 0 = f from rfl]
    rw [List.getElem?_eq_getElem (by simp; omega)]; rfl
  have g1 : (piece s f (m + 1)).getD ((piece s f (m + 1)).length - 1) 0 = s[m] := by
    rw [hl]
    unfold piece
    rw [List.getD_eq_getElem?_getD, List.getElem?_take_of_lt (by omega), List.getElem?_drop, show f + (m + 1 - f - 1) = m by omega]
    rw [List.getElem?_eq_getElem (by simpa using hm)]; rfl
  have key : ∀ c : UInt8, (c == 45) = (c.toNat == 45) := by
    intro c
    by_cases e : c = 45
    · subst e; rfl
    · rw [beq_eq_false_iff_ne.2 e, Eq.comm, beq_eq_false_iff_ne]
      exact fun h => e (UInt8.toNat_inj.1 h)
  unfold labelB
  rw [g0, g1, hl, key, key, decide_eq_true (by omega : 1 ≤ ((m + 1 - f : Nat) : Int)), Bool.true_and, show (((m + 1 - f : Nat) : Int)) = (m : Int) + 1 - (f : Int) by omega]
theorem label_none : labelB [] = false := by decide
set_option maxHeartbeats 16000000 in
theorem label_any (s : ByteArray) (hs : s.size ≤ 1000) (w : World) : Calls Tryd.prog 15 #[.string s] w fun e w' => e = .returned (.bool (labsB s.data.toList)) ∧ w' = w := by
  have hr0 : labsB s.data.toList = labsB (s.data.toList.drop 0) := by simp
  obtain ⟨r, hr⟩ : ∃ r, labsB s.data.toList = r := ⟨_, rfl⟩
  rw [hr] at hr0 ⊢
  have HR := Lib.hid hr0
  have hsI : (s.size : Int) ≤ 1000 := by omega
  have HS := Lib.hid (fun c w => small_any c w)
  clear hr0 hr
  go_enter Tryd.func15, Tryd.ntmps15
  go_wp2
  go_loop [3, 4, 5] (fun n' ok i => ∃ k n f : Nat, i = .int .i64 (k : Int) ∧ n' = .int .i64 (n : Int) ∧ f + n = k ∧ ((k ≤ s.size ∧ ok = .bool ((piece s f k).all labC) ∧ (46 : UInt8) ∉ piece s f k ∧ r = labsB (s.data.toList.drop f)) ∨ (k = s.size + 1 ∧ ok = .bool true ∧ r = true))) (fun _ _ i => s.size + 1 - (intOf i).toNat)
  case atStart => exact ⟨0, 0, 0, rfl, rfl, rfl, .inl ⟨by omega, by rw [piece_nil]; rfl, by rw [piece_nil]; simp, HR.out⟩⟩
  case round =>
    obtain ⟨k, n, f, rfl, rfl, hfn, hrel⟩ := hrel
    rcases hrel with ⟨hk, rfl, hpn, hrr⟩ | ⟨hk, rfl, hrr⟩
    · have HPN := Lib.hid hpn
      have HRR := Lib.hid hrr
      clear hpn hrr
      have hkI : (k : Int) ≤ (s.size : Int) := by omega
      have hnk : (n : Int) ≤ (k : Int) := by omega
      have hkn : (k : Int) - (n : Int) = (f : Int) := by omega
      have HFN := Lib.hid hfn
      clear hfn
      by_cases hlt : (k : Int) < (s.size : Int)
      · have hk1 : k < s.size := by omega
        have HDOT := Lib.hid (labs_dot s f k (by have := HFN.out; omega) hk1 HPN.out)
        have HSN := Lib.hid (piece_snoc s f k (by have := HFN.out; omega) hk1)
        obtain ⟨c, hc⟩ : ∃ c, s[k] = c := ⟨_, rfl⟩
        rw [hc] at HDOT HSN
        have hc8 : (c.toNat : Int) ≤ 255 := by have := c.toNat_lt; omega
        by_cases m1 : (c.toNat : Int) = 46
        · have m1' : ((c.toNat : Int) == 46) = true := by rw [m1]; rfl
          have HK := Lib.hid (HDOT.out (byte_of 46 rfl m1))
          clear m1
          obtain ⟨ok, hok⟩ : ∃ ok, (piece s f k).all labC = ok := ⟨_, rfl⟩
          cases ok with
          | false =>
            have H0 := Lib.hid (show r = false by
              have : labelB (piece s f k) = false := by unfold labelB; rw [hok, Bool.and_false]
              rw [HRR.out, HK.out, this]; rfl)
            rw [hok]
            clear hok
            go_wp2
            go_ret
            exact ⟨by rw [H0.out]; rfl, rfl⟩
          | true =>
            by_cases n1 : (n : Int) ≥ 1
            · obtain ⟨m, hm⟩ : ∃ m, k = m + 1 := ⟨k - 1, by omega⟩
              have hms : m < s.size := by omega
              have hfm : f ≤ m := by have := HFN.out; omega
              have hfs : f < s.size := by omega
              have hmI : (k : Int) - 1 = (m : Int) := by omega
              have HL := Lib.hid (show r = ((decide ((n : Int) ≤ 20) && !(s[f].toNat == 45) && !(s[m].toNat == 45)) && labsB (s.data.toList.drop (k + 1))) by
                have h := label_piece s f m hfm hms
                rw [← hm, hok, Bool.and_true, show (m : Int) + 1 - (f : Int) = (n : Int) by have := HFN.out; omega] at h
                rw [HRR.out, HK.out, h])
              rw [hok]
              clear hok hm
              by_cases n2 : (n : Int) ≤ 20
              · by_cases u9 : (s[m].toNat : Int) = 45
                · have u9' : ((s[m].toNat : Int) != 45) = false := by rw [u9]; rfl
                  have H0 := Lib.hid (show r = false by rw [HL.out, show (s[m].toNat == 45) = true by rw [beq_iff_eq]; omega]; simp)
                  clear u9
                  go_wp2
                  go_ret
                  exact ⟨by rw [H0.out]; rfl, rfl⟩
                · have u9' : ((s[m].toNat : Int) != 45) = true := by simpa using u9
                  by_cases u0 : (s[f].toNat : Int) = 45
                  · have u0' : ((s[f].toNat : Int) != 45) = false := by rw [u0]; rfl
                    have H0 := Lib.hid (show r = false by rw [HL.out, show (s[f].toNat == 45) = true by rw [beq_iff_eq]; omega]; simp)
                    clear u0 u9
                    go_wp2
                    go_ret
                    exact ⟨by rw [H0.out]; rfl, rfl⟩
                  · have u0' : ((s[f].toNat : Int) != 45) = true := by simpa using u0
                    have HNX := Lib.hid (show r = labsB (s.data.toList.drop (k + 1)) by
                      rw [HL.out, decide_eq_true n2, show (s[f].toNat == 45) = false by rw [beq_eq_false_iff_ne]; omega, show (s[m].toNat == 45) = false by rw [beq_eq_false_iff_ne]; omega]; rfl)
                    clear u0 u9
                    go_wp2
                    exact ⟨⟨k + 1, 0, k + 1, by go_num, by go_num, by omega, .inl ⟨by omega, by rw [piece_nil]; rfl, by rw [piece_nil]; simp, HNX.out⟩⟩, by simp [intOf]; omega⟩
              · have H0 := Lib.hid (show r = false by rw [HL.out, decide_eq_false n2]; rfl)
                go_wp2
                go_ret
                exact ⟨by rw [H0.out]; rfl, rfl⟩
            · have H0 := Lib.hid (show r = false by
                have hfk : k = f := by have := HFN.out; omega
                rw [HRR.out, HK.out, hfk, piece_nil, label_none]; rfl)
              rw [hok]
              clear hok
              go_wp2
              go_ret
              exact ⟨by rw [H0.out]; rfl, rfl⟩
        · have m1' : ((c.toNat : Int) == 46) = false := by simpa using m1
          have h46 : c ≠ 46 := fun e => m1 (by rw [e]; rfl)
          have HNN := Lib.hid (show (46 : UInt8) ∉ piece s f (k + 1) by
            rw [HSN.out]
            intro hm
            rcases List.mem_append.1 hm with e | e
            · exact HPN.out e
            · simp at e; exact h46 e.symm)
          have HAL := Lib.hid (show (piece s f (k + 1)).all labC = ((piece s f k).all labC && (sodB c || (c.toNat : Int) == 45)) by rw [HSN.out, List.all_append]; simp [labC])
          clear h46 m1
          obtain ⟨ok, hok⟩ : ∃ ok, (piece s f k).all labC = ok := ⟨_, rfl⟩
          rw [hok] at HAL ⊢
          clear hok
          have HSc := Lib.hid (fun w => HS.out c w)
          obtain ⟨sd, hsd⟩ : ∃ b, sodB c = b := ⟨_, rfl⟩
          rw [hsd] at HAL HSc
          clear hsd
          cases ok with
          | false =>
            go_wp2
            exact ⟨⟨k + 1, n + 1, f, by go_num, by go_num, by have := HFN.out; omega, .inl ⟨by omega, by rw [HAL.out]; rfl, HNN.out, HRR.out⟩⟩, by simp [intOf]; omega⟩
          | true =>
            cases sd with
            | true =>
              go_wp2_with (go_at_call 27; (with_reducible refine (HSc.out _).mono ?_); rintro e w1 ⟨rfl, hw⟩; replace hw := hw.symm; subst hw)
              exact ⟨⟨k + 1, n + 1, f, by go_num, by go_num, by have := HFN.out; omega, .inl ⟨by omega, by rw [HAL.out]; rfl, HNN.out, HRR.out⟩⟩, by simp [intOf]; omega⟩
            | false =>
              obtain ⟨q, hq⟩ : ∃ q, ((c.toNat : Int) == 45) = q := ⟨_, rfl⟩
              rw [hq] at HAL
              cases q
              all_goals (
                go_wp2_with (go_at_call 27; (with_reducible refine (HSc.out _).mono ?_); rintro e w1 ⟨rfl, hw⟩; replace hw := hw.symm; subst hw)
                exact ⟨⟨k + 1, n + 1, f, by go_num, by go_num, by have := HFN.out; omega, .inl ⟨by omega, by rw [HAL.out]; rfl, HNN.out, HRR.out⟩⟩, by simp [intOf]; omega⟩)
      · have hks : k = s.size := by omega
        have HK := Lib.hid (show labsB (s.data.toList.drop f) = (labelB (piece s f k) && true) by
          rw [Bool.and_true, hks]
          exact labs_end s f (by have := HFN.out; omega) (by rw [← hks]; exact HPN.out))
        have hE : ((k : Int) == (s.size : Int)) = true := by rw [hks]; simp
        have HKS := Lib.hid hks
        clear hks
        obtain ⟨ok, hok⟩ : ∃ ok, (piece s f k).all labC = ok := ⟨_, rfl⟩
        cases ok with
        | false =>
          have H0 := Lib.hid (show r = false by
            have : labelB (piece s f k) = false := by unfold labelB; rw [hok, Bool.and_false]
            rw [HRR.out, HK.out, this]; rfl)
          rw [hok]
          clear hok
          go_wp2
          go_ret
          exact ⟨by rw [H0.out]; rfl, rfl⟩
        | true =>
          by_cases n1 : (n : Int) ≥ 1
          · obtain ⟨m, hm⟩ : ∃ m, k = m + 1 := ⟨k - 1, by omega⟩
            have hms : m < s.size := by omega
            have hfm : f ≤ m := by have := HFN.out; omega
            have hfs : f < s.size := by omega
            have hmI : (k : Int) - 1 = (m : Int) := by omega
            have HL := Lib.hid (show r = ((decide ((n : Int) ≤ 20) && !(s[f].toNat == 45) && !(s[m].toNat == 45)) && true) by
              have h := label_piece s f m hfm hms
              rw [← hm, hok, Bool.and_true, show (m : Int) + 1 - (f : Int) = (n : Int) by have := HFN.out; omega] at h
              rw [HRR.out, HK.out, h])
            rw [hok]
            clear hok hm
            by_cases n2 : (n : Int) ≤ 20
            · by_cases u9 : (s[m].toNat : Int) = 45
              · have u9' : ((s[m].toNat : Int) != 45) = false := by rw [u9]; rfl
                have H0 := Lib.hid (show r = false by rw [HL.out, show (s[m].toNat == 45) = true by rw [beq_iff_eq]; omega]; simp)
                clear u9
                go_wp2
                go_ret
                exact ⟨by rw [H0.out]; rfl, rfl⟩
              · have u9' : ((s[m].toNat : Int) != 45) = true := by simpa using u9
                by_cases u0 : (s[f].toNat : Int) = 45
                · have u0' : ((s[f].toNat : Int) != 45) = false := by rw [u0]; rfl
                  have H0 := Lib.hid (show r = false by rw [HL.out, show (s[f].toNat == 45) = true by rw [beq_iff_eq]; omega]; simp)
                  clear u0 u9
                  go_wp2
                  go_ret
                  exact ⟨by rw [H0.out]; rfl, rfl⟩
                · have u0' : ((s[f].toNat : Int) != 45) = true := by simpa using u0
                  have HNX := Lib.hid (show r = true by
                    rw [HL.out, decide_eq_true n2, show (s[f].toNat == 45) = false by rw [beq_eq_false_iff_ne]; omega, show (s[m].toNat == 45) = false by rw [beq_eq_false_iff_ne]; omega]; rfl)
                  clear u0 u9
                  go_wp2
                  exact ⟨⟨k + 1, 0, k + 1, by go_num, by go_num, by omega, .inr ⟨by have := HKS.out; omega, rfl, HNX.out⟩⟩, by simp [intOf]; omega⟩
            · have H0 := Lib.hid (show r = false by rw [HL.out, decide_eq_false n2]; rfl)
              go_wp2
              go_ret
              exact ⟨by rw [H0.out]; rfl, rfl⟩
          · have H0 := Lib.hid (show r = false by
              have hfk : k = f := by have := HFN.out; omega
              rw [HRR.out, HK.out, hfk, piece_nil, label_none]; rfl)
            rw [hok]
            clear hok
            go_wp2
            go_ret
            exact ⟨by rw [H0.out]; rfl, rfl⟩
    · have HKS := Lib.hid hk
      have hgt : ¬ (k : Int) ≤ (s.size : Int) := by omega
      have H0 := Lib.hid (show r = true from hrr)
      clear hk hrr
      go_wp2
      go_ret
      exact ⟨by rw [H0.out]; rfl, rfl⟩
end Go.Proofs.YtckkckbgjehpjaaDoor
