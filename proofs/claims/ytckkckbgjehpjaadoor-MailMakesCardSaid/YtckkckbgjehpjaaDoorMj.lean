/- Addresses: the law's part. -/
import Derived.Test.YtckkckbgjehpjaaDoorMi
namespace Go.Proofs.YtckkckbgjehpjaaDoor
open Go.RowKit
open Go.Lib hiding intOf
set_option linter.unusedVariables false
set_option maxRecDepth 20000
def headB (s : ByteArray) (k : Nat) : Bool := (s.data.toList.take k).all locC && !adj ([46] ++ s.data.toList.take k)
def lastDot (s : ByteArray) (k : Nat) : Bool := ([46] ++ s.data.toList.take k).getLast? == some 46
theorem lastDot_zero (s : ByteArray) : lastDot s 0 = true := rfl
theorem lastDot_succ (s : ByteArray) (j : Nat) (h : j < s.size) : lastDot s (j + 1) = (s[j] == 46) := by
  unfold lastDot
  rw [List.take_succ_eq_append_getElem (by simpa using h), ← List.append_assoc, List.getLast?_append]
  rfl
theorem head_succ (s : ByteArray) (k : Nat) (h : k < s.size) : headB s (k + 1) = (headB s k && (locC s[k] && !(lastDot s k && s[k] == 46))) := by
  unfold headB lastDot
  rw [take_snoc_all locC s k h]
  have e : s.data.toList.take (k + 1) = s.data.toList.take k ++ [s[k]] := by rw [List.take_succ_eq_append_getElem (by simpa using h)]; rfl
  rw [e, ← List.append_assoc, adj_snoc]
  cases (s.data.toList.take k).all locC <;> cases locC s[k] <;> simp
def okz (s : ByteArray) : Bool := decide (1 ≤ (s.size : Int)) && decide ((s.size : Int) ≤ 32)
theorem adj_two (x : List UInt8) (c : UInt8) : adj (x ++ [c] ++ [46]) = (adj x || (c == 46)) := by
  have h : (x ++ [c]).getLast? = some c := by simp
  rw [adj_snoc, h, adj_snoc]
  show (adj x || (x.getLast? == some 46 && c == 46) || ((c == 46) && true)) = _
  cases (c == 46) <;> simp
theorem local_last (s : ByteArray) (k : Nat) (h : s.size = k + 1) : localB s.data.toList = (okz s && headB s k && (locC (s[k]'(by omega)) && !(s[k]'(by omega) == 46))) := by
  have e : s.data.toList = s.data.toList.take k ++ [s[k]'(by omega)] := by
    have h1 : s.data.toList.take (k + 1) = s.data.toList := List.take_of_length_le (by simp; omega)
    have h2 : s.data.toList.take (k + 1) = s.data.toList.take k ++ [s[k]'(by omega)] := by rw [List.take_succ_eq_append_getElem (by simp; omega)]; rfl
    rw [← h2, h1]
  have hl : s.data.toList.length = s.size := by simp
  unfold localB okz headB
  rw [hl]
  have e1 : adj ([46] ++ s.data.toList ++ [46]) = (adj ([46] ++ s.data.toList.take k) || (s[k]'(by omega) == 46)) := by
    have e2 : [46] ++ s.data.toList = ([46] ++ s.data.toList.take k) ++ [s[k]'(by omega)] := by rw [List.append_assoc, ← e]
    rw [e2, adj_two]
  have e3 : s.data.toList.all locC = ((s.data.toList.take k).all locC && locC (s[k]'(by omega))) := by
    conv => lhs; rw [e]
    rw [List.all_append]; simp
  rw [e1, e3]
  cases adj ([46] ++ s.data.toList.take k) <;> cases (s[k]'(by omega) == 46) <;> cases (s.data.toList.take k).all locC <;> cases locC (s[k]'(by omega)) <;> cases decide (1 ≤ (s.size : Int)) <;> cases decide ((s.size : Int) ≤ 32) <;> rfl
def partB (s : ByteArray) (k : Nat) : Bool := if k < s.size then okz s && headB s k else localB s.data.toList
theorem part_next (s : ByteArray) (k : Nat) (h : k < s.size) : partB s (k + 1) = (partB s k && (locC s[k] && !(s[k] == 46 && (lastDot s k || decide (k + 1 = s.size))))) := by
  unfold partB
  rw [if_pos h]
  by_cases h2 : k + 1 < s.size
  · rw [if_pos h2, head_succ s k h, decide_eq_false (by omega : ¬ k + 1 = s.size), Bool.or_false, Bool.and_comm (s[k] == 46), Bool.and_assoc]
  · rw [if_neg h2, local_last s k (by omega), decide_eq_true (by omega : k + 1 = s.size), Bool.or_true, Bool.and_true]
theorem part_end (s : ByteArray) : partB s s.size = localB s.data.toList := by unfold partB; rw [if_neg (by omega)]
theorem part_start (s : ByteArray) : partB s 0 = okz s := by
  unfold partB
  by_cases h : 0 < s.size
  · rw [if_pos h]
    have : headB s 0 = true := rfl
    rw [this, Bool.and_true]
  · have hn : s.data.toList = [] := List.eq_nil_of_length_eq_zero ((show s.data.toList.length = s.size by simp).trans (by omega))
    rw [if_neg h, hn]
    unfold okz
    rw [decide_eq_false (by omega : ¬ 1 ≤ (s.size : Int))]; rfl
set_option maxHeartbeats 16000000 in
theorem part_any (s : ByteArray) (hs : s.size ≤ 1000) (w : World) : Calls Tryd.prog 16 #[.string s] w fun e w' => e = .returned (.bool (localB s.data.toList)) ∧ w' = w := by
  obtain ⟨r, hr⟩ : ∃ r, localB s.data.toList = r := ⟨_, rfl⟩
  rw [hr]
  have HEND := Lib.hid (show partB s s.size = r by rw [part_end, hr])
  have HST := Lib.hid (part_start s)
  have hsI : (s.size : Int) ≤ 1000 := by omega
  have HS := Lib.hid (fun c w => small_any c w)
  clear hr
  rcases (show (¬ (s.size : Int) ≥ 1) ∨ ((s.size : Int) ≥ 1 ∧ (s.size : Int) ≤ 32) ∨ ((s.size : Int) ≥ 1 ∧ ¬ (s.size : Int) ≤ 32) by omega) with z | ⟨z1, z2⟩ | ⟨z1, z2⟩
  · have HOK := Lib.hid (show partB s 0 = false by rw [HST.out]; unfold okz; rw [decide_eq_false (by omega)]; rfl)
    clear HST
    go_enter Tryd.func16, Tryd.ntmps16
    go_wp2
    go_loop [3, 4] (fun ok i => ∃ k : Nat, k ≤ s.size ∧ i = .int .i64 (k : Int) ∧ ok = .bool (partB s k)) (fun _ i => s.size - (intOf i).toNat)
    case atStart => exact ⟨0, by omega, rfl, by rw [HOK.out]⟩
    case round =>
      obtain ⟨k, hk, rfl, rfl⟩ := hrel
      by_cases hlt : k < s.size
      · exfalso; omega
      · have hks : k = s.size := by omega
        have HE := Lib.hid (show partB s k = r by rw [hks]; exact HEND.out)
        have hge : ¬ (k : Int) < (s.size : Int) := by omega
        clear hks
        go_wp2
        go_ret
        exact ⟨by rw [← HE.out]; rfl, rfl⟩
  · have HOK := Lib.hid (show partB s 0 = true by rw [HST.out]; unfold okz; rw [decide_eq_true (by omega), decide_eq_true z2]; rfl)
    clear HST
    go_enter Tryd.func16, Tryd.ntmps16
    go_wp2
    go_loop [3, 4] (fun ok i => ∃ k : Nat, k ≤ s.size ∧ i = .int .i64 (k : Int) ∧ ok = .bool (partB s k)) (fun _ i => s.size - (intOf i).toNat)
    case atStart => exact ⟨0, by omega, rfl, by rw [HOK.out]⟩
    case round =>
      obtain ⟨k, hk, rfl, rfl⟩ := hrel
      by_cases hlt : k < s.size
      · have HG := Lib.hid (part_next s k hlt)
        have hkm : (decide (k + 1 = s.size)) = !decide ((k : Int) < (s.size : Int) - 1) := by
          by_cases e : k + 1 = s.size
          · rw [decide_eq_true e, decide_eq_false (by omega)]; rfl
          · rw [decide_eq_false e, decide_eq_true (by omega)]; rfl
        rw [hkm] at HG
        clear hkm
        obtain ⟨ok, hok⟩ : ∃ ok, partB s k = ok := ⟨_, rfl⟩
        rw [hok] at HG ⊢
        clear hok
        cases ok with
        | false =>
          have HE := Lib.hid (show partB s (k + 1) = false by rw [HG.out]; rfl)
          clear HG
          go_wp2
          exact ⟨⟨k + 1, by omega, by go_num, by rw [HE.out]⟩, by simp [intOf]; omega⟩
        | true =>
          obtain ⟨c, hc⟩ : ∃ c, s[k] = c := ⟨_, rfl⟩
          rw [hc] at HG
          have hc8 : (c.toNat : Int) ≤ 255 := by have := c.toNat_lt; omega
          have HSc := Lib.hid (fun w => HS.out c w)
          have HL := Lib.hid (show locC c = (capB c || sodB c || ((c.toNat : Int) == 46 || (c.toNat : Int) == 95 || (c.toNat : Int) == 43 || (c.toNat : Int) == 45)) by rw [← dotC_eq]; rfl)
          have h46e : (c == 46) = ((c.toNat : Int) == 46) := byte_beq c 46
          rw [h46e] at HG
          clear h46e
          obtain ⟨sd, hsd⟩ : ∃ b, sodB c = b := ⟨_, rfl⟩
          have HSD := Lib.hid hsd
          rw [hsd] at HSc HL
          clear hsd
          cases sd with
          | true =>
            have h46 : ((c.toNat : Int) == 46) = false := by
              have := (sodB_iff c).1 HSD.out
              rw [beq_eq_false_iff_ne]; omega
            have HE := Lib.hid (show partB s (k + 1) = true by rw [HG.out, HL.out, h46]; cases capB c <;> rfl)
            clear HG HL h46
            go_wp2_with (go_at_call 27; (with_reducible refine (HSc.out _).mono ?_); rintro e w1 ⟨rfl, hw⟩; replace hw := hw.symm; subst hw)
            exact ⟨⟨k + 1, by omega, by go_num, by rw [HE.out]⟩, by simp [intOf]; omega⟩
          | false =>
            have HCB := Lib.hid (show capB c = (decide (65 ≤ (c.toNat : Int)) && decide ((c.toNat : Int) ≤ 90)) from rfl)
            by_cases u1 : 65 ≤ (c.toNat : Int)
            · by_cases u2 : (c.toNat : Int) ≤ 90
              · have h46 : ((c.toNat : Int) == 46) = false := by rw [beq_eq_false_iff_ne]; omega
                have HE := Lib.hid (show partB s (k + 1) = true by rw [HG.out, HL.out, HCB.out, decide_eq_true u1, decide_eq_true u2, h46]; rfl)
                clear HG HL h46
                go_wp2_with (go_at_call 27; (with_reducible refine (HSc.out _).mono ?_); rintro e w1 ⟨rfl, hw⟩; replace hw := hw.symm; subst hw)
                exact ⟨⟨k + 1, by omega, by go_num, by rw [HE.out]⟩, by simp [intOf]; omega⟩
              · have u2' : decide ((c.toNat : Int) ≤ 90) = false := by simpa using u2
                have q46 : ((c.toNat : Int) == 46) = false := by rw [beq_eq_false_iff_ne]; omega
                have q43 : ((c.toNat : Int) == 43) = false := by rw [beq_eq_false_iff_ne]; omega
                have q45 : ((c.toNat : Int) == 45) = false := by rw [beq_eq_false_iff_ne]; omega
                obtain ⟨q, hq⟩ : ∃ q, ((c.toNat : Int) == 95) = q := ⟨_, rfl⟩
                have HE := Lib.hid (show partB s (k + 1) = q by rw [HG.out, HL.out, HCB.out, u2', q46, q43, q45, hq, Bool.and_false]; cases q <;> rfl)
                clear HG HL HCB
                cases q
                all_goals (
                  go_wp2_with (go_at_call 27; (with_reducible refine (HSc.out _).mono ?_); rintro e w1 ⟨rfl, hw⟩; replace hw := hw.symm; subst hw)
                  exact ⟨⟨k + 1, by omega, by go_num, by rw [HE.out]⟩, by simp [intOf]; omega⟩)
            · have u1' : decide (65 ≤ (c.toNat : Int)) = false := by simpa using u1
              have q95 : ((c.toNat : Int) == 95) = false := by rw [beq_eq_false_iff_ne]; omega
              have HGL := Lib.hid (show partB s (k + 1) = (((c.toNat : Int) == 46 || (c.toNat : Int) == 43 || (c.toNat : Int) == 45) && !((c.toNat : Int) == 46 && (lastDot s k || !decide ((k : Int) < (s.size : Int) - 1)))) by
                rw [HG.out, HL.out, HCB.out, u1', q95]
                cases ((c.toNat : Int) == 46) <;> cases ((c.toNat : Int) == 43) <;> cases ((c.toNat : Int) == 45) <;> rfl)
              clear HG HL HCB
              by_cases h46 : (c.toNat : Int) = 46
              · have q46 : ((c.toNat : Int) == 46) = true := by rw [h46]; rfl
                have q43 : ((c.toNat : Int) == 43) = false := by rw [h46]; rfl
                have q45 : ((c.toNat : Int) == 45) = false := by rw [h46]; rfl
                have HD := Lib.hid (show partB s (k + 1) = !(lastDot s k || !decide ((k : Int) < (s.size : Int) - 1)) by rw [HGL.out, q46, q43, q45]; rfl)
                clear HGL h46
                by_cases k0 : (k : Int) > 0
                · by_cases k1 : (k : Int) < (s.size : Int) - 1
                  · obtain ⟨j, hj⟩ : ∃ j, k = j + 1 := ⟨k - 1, by omega⟩
                    have hjs : j < s.size := by omega
                    have hjI : (k : Int) - 1 = (j : Int) := by omega
                    have HLD := Lib.hid (show lastDot s k = ((s[j].toNat : Int) == 46) by rw [hj, lastDot_succ s j hjs]; exact byte_beq _ 46)
                    clear hj
                    by_cases p : (s[j].toNat : Int) = 46
                    · have p1 : ((s[j].toNat : Int) != 46) = false := by rw [p]; rfl
                      have HE := Lib.hid (show partB s (k + 1) = false by rw [HD.out, HLD.out, p]; rfl)
                      clear p HD
                      go_wp2_with (go_at_call 27; (with_reducible refine (HSc.out _).mono ?_); rintro e w1 ⟨rfl, hw⟩; replace hw := hw.symm; subst hw)
                      exact ⟨⟨k + 1, by omega, by go_num, by rw [HE.out]⟩, by simp [intOf]; omega⟩
                    · have p1 : ((s[j].toNat : Int) != 46) = true := by simpa using p
                      have p2 : ((s[j].toNat : Int) == 46) = false := by simpa using p
                      have HE := Lib.hid (show partB s (k + 1) = true by rw [HD.out, HLD.out, p2, decide_eq_true k1]; rfl)
                      clear p p2 HD
                      go_wp2_with (go_at_call 27; (with_reducible refine (HSc.out _).mono ?_); rintro e w1 ⟨rfl, hw⟩; replace hw := hw.symm; subst hw)
                      exact ⟨⟨k + 1, by omega, by go_num, by rw [HE.out]⟩, by simp [intOf]; omega⟩
                  · have HE := Lib.hid (show partB s (k + 1) = false by rw [HD.out, decide_eq_false k1]; simp)
                    clear HD
                    go_wp2_with (go_at_call 27; (with_reducible refine (HSc.out _).mono ?_); rintro e w1 ⟨rfl, hw⟩; replace hw := hw.symm; subst hw)
                    exact ⟨⟨k + 1, by omega, by go_num, by rw [HE.out]⟩, by simp [intOf]; omega⟩
                · have HE := Lib.hid (show partB s (k + 1) = false by
                    have : k = 0 := by omega
                    have h : lastDot s k = true := by rw [this]; rfl
                    rw [HD.out, h]; rfl)
                  clear HD
                  go_wp2_with (go_at_call 27; (with_reducible refine (HSc.out _).mono ?_); rintro e w1 ⟨rfl, hw⟩; replace hw := hw.symm; subst hw)
                  exact ⟨⟨k + 1, by omega, by go_num, by rw [HE.out]⟩, by simp [intOf]; omega⟩
              · have q46 : ((c.toNat : Int) == 46) = false := by simpa using h46
                obtain ⟨q, hq⟩ : ∃ q, ((c.toNat : Int) == 43) = q := ⟨_, rfl⟩
                obtain ⟨p, hp⟩ : ∃ p, ((c.toNat : Int) == 45) = p := ⟨_, rfl⟩
                have HE := Lib.hid (show partB s (k + 1) = (q || p) by rw [HGL.out, q46, hq, hp]; cases q <;> cases p <;> rfl)
                clear HGL h46
                cases q <;> cases p
                all_goals (
                  go_wp2_with (go_at_call 27; (with_reducible refine (HSc.out _).mono ?_); rintro e w1 ⟨rfl, hw⟩; replace hw := hw.symm; subst hw)
                  exact ⟨⟨k + 1, by omega, by go_num, by rw [HE.out]; rfl⟩, by simp [intOf]; omega⟩)
      · have hks : k = s.size := by omega
        have HE := Lib.hid (show partB s k = r by rw [hks]; exact HEND.out)
        have hge : ¬ (k : Int) < (s.size : Int) := by omega
        clear hks
        go_wp2
        go_ret
        exact ⟨by rw [← HE.out]; rfl, rfl⟩
  · have HOK := Lib.hid (show partB s 0 = false by rw [HST.out]; unfold okz; rw [decide_eq_false z2, Bool.and_false])
    clear HST
    go_enter Tryd.func16, Tryd.ntmps16
    go_wp2
    go_loop [3, 4] (fun ok i => ∃ k : Nat, k ≤ s.size ∧ i = .int .i64 (k : Int) ∧ ok = .bool (partB s k)) (fun _ i => s.size - (intOf i).toNat)
    case atStart => exact ⟨0, by omega, rfl, by rw [HOK.out]⟩
    case round =>
      obtain ⟨k, hk, rfl, rfl⟩ := hrel
      by_cases hlt : k < s.size
      · have HG := Lib.hid (part_next s k hlt)
        have hkm : (decide (k + 1 = s.size)) = !decide ((k : Int) < (s.size : Int) - 1) := by
          by_cases e : k + 1 = s.size
          · rw [decide_eq_true e, decide_eq_false (by omega)]; rfl
          · rw [decide_eq_false e, decide_eq_true (by omega)]; rfl
        rw [hkm] at HG
        clear hkm
        obtain ⟨ok, hok⟩ : ∃ ok, partB s k = ok := ⟨_, rfl⟩
        rw [hok] at HG ⊢
        clear hok
        cases ok with
        | false =>
          have HE := Lib.hid (show partB s (k + 1) = false by rw [HG.out]; rfl)
          clear HG
          go_wp2
          exact ⟨⟨k + 1, by omega, by go_num, by rw [HE.out]⟩, by simp [intOf]; omega⟩
        | true =>
          obtain ⟨c, hc⟩ : ∃ c, s[k] = c := ⟨_, rfl⟩
          rw [hc] at HG
          have hc8 : (c.toNat : Int) ≤ 255 := by have := c.toNat_lt; omega
          have HSc := Lib.hid (fun w => HS.out c w)
          have HL := Lib.hid (show locC c = (capB c || sodB c || ((c.toNat : Int) == 46 || (c.toNat : Int) == 95 || (c.toNat : Int) == 43 || (c.toNat : Int) == 45)) by rw [← dotC_eq]; rfl)
          have h46e : (c == 46) = ((c.toNat : Int) == 46) := byte_beq c 46
          rw [h46e] at HG
          clear h46e
          obtain ⟨sd, hsd⟩ : ∃ b, sodB c = b := ⟨_, rfl⟩
          have HSD := Lib.hid hsd
          rw [hsd] at HSc HL
          clear hsd
          cases sd with
          | true =>
            have h46 : ((c.toNat : Int) == 46) = false := by
              have := (sodB_iff c).1 HSD.out
              rw [beq_eq_false_iff_ne]; omega
            have HE := Lib.hid (show partB s (k + 1) = true by rw [HG.out, HL.out, h46]; cases capB c <;> rfl)
            clear HG HL h46
            go_wp2_with (go_at_call 27; (with_reducible refine (HSc.out _).mono ?_); rintro e w1 ⟨rfl, hw⟩; replace hw := hw.symm; subst hw)
            exact ⟨⟨k + 1, by omega, by go_num, by rw [HE.out]⟩, by simp [intOf]; omega⟩
          | false =>
            have HCB := Lib.hid (show capB c = (decide (65 ≤ (c.toNat : Int)) && decide ((c.toNat : Int) ≤ 90)) from rfl)
            by_cases u1 : 65 ≤ (c.toNat : Int)
            · by_cases u2 : (c.toNat : Int) ≤ 90
              · have h46 : ((c.toNat : Int) == 46) = false := by rw [beq_eq_false_iff_ne]; omega
                have HE := Lib.hid (show partB s (k + 1) = true by rw [HG.out, HL.out, HCB.out, decide_eq_true u1, decide_eq_true u2, h46]; rfl)
                clear HG HL h46
                go_wp2_with (go_at_call 27; (with_reducible refine (HSc.out _).mono ?_); rintro e w1 ⟨rfl, hw⟩; replace hw := hw.symm; subst hw)
                exact ⟨⟨k + 1, by omega, by go_num, by rw [HE.out]⟩, by simp [intOf]; omega⟩
              · have u2' : decide ((c.toNat : Int) ≤ 90) = false := by simpa using u2
                have q46 : ((c.toNat : Int) == 46) = false := by rw [beq_eq_false_iff_ne]; omega
                have q43 : ((c.toNat : Int) == 43) = false := by rw [beq_eq_false_iff_ne]; omega
                have q45 : ((c.toNat : Int) == 45) = false := by rw [beq_eq_false_iff_ne]; omega
                obtain ⟨q, hq⟩ : ∃ q, ((c.toNat : Int) == 95) = q := ⟨_, rfl⟩
                have HE := Lib.hid (show partB s (k + 1) = q by rw [HG.out, HL.out, HCB.out, u2', q46, q43, q45, hq, Bool.and_false]; cases q <;> rfl)
                clear HG HL HCB
                cases q
                all_goals (
                  go_wp2_with (go_at_call 27; (with_reducible refine (HSc.out _).mono ?_); rintro e w1 ⟨rfl, hw⟩; replace hw := hw.symm; subst hw)
                  exact ⟨⟨k + 1, by omega, by go_num, by rw [HE.out]⟩, by simp [intOf]; omega⟩)
            · have u1' : decide (65 ≤ (c.toNat : Int)) = false := by simpa using u1
              have q95 : ((c.toNat : Int) == 95) = false := by rw [beq_eq_false_iff_ne]; omega
              have HGL := Lib.hid (show partB s (k + 1) = (((c.toNat : Int) == 46 || (c.toNat : Int) == 43 || (c.toNat : Int) == 45) && !((c.toNat : Int) == 46 && (lastDot s k || !decide ((k : Int) < (s.size : Int) - 1)))) by
                rw [HG.out, HL.out, HCB.out, u1', q95]
                cases ((c.toNat : Int) == 46) <;> cases ((c.toNat : Int) == 43) <;> cases ((c.toNat : Int) == 45) <;> rfl)
              clear HG HL HCB
              by_cases h46 : (c.toNat : Int) = 46
              · have q46 : ((c.toNat : Int) == 46) = true := by rw [h46]; rfl
                have q43 : ((c.toNat : Int) == 43) = false := by rw [h46]; rfl
                have q45 : ((c.toNat : Int) == 45) = false := by rw [h46]; rfl
                have HD := Lib.hid (show partB s (k + 1) = !(lastDot s k || !decide ((k : Int) < (s.size : Int) - 1)) by rw [HGL.out, q46, q43, q45]; rfl)
                clear HGL h46
                by_cases k0 : (k : Int) > 0
                · by_cases k1 : (k : Int) < (s.size : Int) - 1
                  · obtain ⟨j, hj⟩ : ∃ j, k = j + 1 := ⟨k - 1, by omega⟩
                    have hjs : j < s.size := by omega
                    have hjI : (k : Int) - 1 = (j : Int) := by omega
                    have HLD := Lib.hid (show lastDot s k = ((s[j].toNat : Int) == 46) by rw [hj, lastDot_succ s j hjs]; exact byte_beq _ 46)
                    clear hj
                    by_cases p : (s[j].toNat : Int) = 46
                    · have p1 : ((s[j].toNat : Int) != 46) = false := by rw [p]; rfl
                      have HE := Lib.hid (show partB s (k + 1) = false by rw [HD.out, HLD.out, p]; rfl)
                      clear p HD
                      go_wp2_with (go_at_call 27; (with_reducible refine (HSc.out _).mono ?_); rintro e w1 ⟨rfl, hw⟩; replace hw := hw.symm; subst hw)
                      exact ⟨⟨k + 1, by omega, by go_num, by rw [HE.out]⟩, by simp [intOf]; omega⟩
                    · have p1 : ((s[j].toNat : Int) != 46) = true := by simpa using p
                      have p2 : ((s[j].toNat : Int) == 46) = false := by simpa using p
                      have HE := Lib.hid (show partB s (k + 1) = true by rw [HD.out, HLD.out, p2, decide_eq_true k1]; rfl)
                      clear p p2 HD
                      go_wp2_with (go_at_call 27; (with_reducible refine (HSc.out _).mono ?_); rintro e w1 ⟨rfl, hw⟩; replace hw := hw.symm; subst hw)
                      exact ⟨⟨k + 1, by omega, by go_num, by rw [HE.out]⟩, by simp [intOf]; omega⟩
                  · have HE := Lib.hid (show partB s (k + 1) = false by rw [HD.out, decide_eq_false k1]; simp)
                    clear HD
                    go_wp2_with (go_at_call 27; (with_reducible refine (HSc.out _).mono ?_); rintro e w1 ⟨rfl, hw⟩; replace hw := hw.symm; subst hw)
                    exact ⟨⟨k + 1, by omega, by go_num, by rw [HE.out]⟩, by simp [intOf]; omega⟩
                · have HE := Lib.hid (show partB s (k + 1) = false by
                    have : k = 0 := by omega
                    have h : lastDot s k = true := by rw [this]; rfl
                    rw [HD.out, h]; rfl)
                  clear HD
                  go_wp2_with (go_at_call 27; (with_reducible refine (HSc.out _).mono ?_); rintro e w1 ⟨rfl, hw⟩; replace hw := hw.symm; subst hw)
                  exact ⟨⟨k + 1, by omega, by go_num, by rw [HE.out]⟩, by simp [intOf]; omega⟩
              · have q46 : ((c.toNat : Int) == 46) = false := by simpa using h46
                obtain ⟨q, hq⟩ : ∃ q, ((c.toNat : Int) == 43) = q := ⟨_, rfl⟩
                obtain ⟨p, hp⟩ : ∃ p, ((c.toNat : Int) == 45) = p := ⟨_, rfl⟩
                have HE := Lib.hid (show partB s (k + 1) = (q || p) by rw [HGL.out, q46, hq, hp]; cases q <;> cases p <;> rfl)
                clear HGL h46
                cases q <;> cases p
                all_goals (
                  go_wp2_with (go_at_call 27; (with_reducible refine (HSc.out _).mono ?_); rintro e w1 ⟨rfl, hw⟩; replace hw := hw.symm; subst hw)
                  exact ⟨⟨k + 1, by omega, by go_num, by rw [HE.out]; rfl⟩, by simp [intOf]; omega⟩)
      · have hks : k = s.size := by omega
        have HE := Lib.hid (show partB s k = r by rw [hks]; exact HEND.out)
        have hge : ¬ (k : Int) < (s.size : Int) := by omega
        clear hks
        go_wp2
        go_ret
        exact ⟨by rw [← HE.out]; rfl, rfl⟩
end Go.Proofs.YtckkckbgjehpjaaDoor
