/- IdentBack's walk. -/
import Derived.Test.YtjabpchkdcdiaaaFst
namespace Go.Proofs.Ytjabpchkdcdiaaa
open Go.RowKit
set_option linter.unusedVariables false
theorem name_noslash {s : ByteArray} (h : nameB s.data.toList = true) : ∀ j (hj : j < s.size), s[j] ≠ 47 := by
  intro j hj e
  simp only [nameB, Bool.and_eq_true] at h
  have := List.all_eq_true.1 h.2 s[j] (by show s.data[j] ∈ _; simp)
  rw [e] at this
  exact absurd this (by decide)
theorem key_at {a b : ByteArray} (h : nameB a.data.toList = true) : ixS ((a ++ ⟨#[47]⟩) ++ b) = (a.size : Int) := by
  have hsz : ((a ++ ByteArray.mk #[47]) ++ b).size = a.size + 1 + b.size := by rw [ByteArray.size_append, ByteArray.size_append]; rfl
  have hl : ((a ++ ByteArray.mk #[47]) ++ b).data.toList = a.data.toList ++ 47 :: b.data.toList := by simp
  have hal : a.data.toList.length = a.size := (Lib.size_eq a).symm
  have hg : ∀ j (hj : j < ((a ++ ByteArray.mk #[47]) ++ b).size), ((a ++ ByteArray.mk #[47]) ++ b)[j] = (a.data.toList ++ 47 :: b.data.toList)[j]'(by rw [← hl]; show j < ((a ++ ByteArray.mk #[47]) ++ b).data.toList.length; rw [← Lib.size_eq]; exact hj) := by
    intro j hj
    simp only [← hl]
    rfl
  refine ix_some _ a.size (by omega) (fun j hj hja => ?_) ?_
  · rw [hg j hj, List.getElem_append_left (by omega)]
    exact name_noslash h j hja
  · rw [hg a.size (by omega), List.getElem_append_right (by omega)]
    simp [hal]
theorem take_l (l r : List UInt8) : (l ++ 47 :: r).take l.length = l := by simp
theorem drop_l (l r : List UInt8) : (l ++ 47 :: r).drop (l.length + 1) = r := by
  rw [List.drop_append]
  simp
theorem spl_key {a b : ByteArray} (h : nameB a.data.toList = true) (h2 : nameB b.data.toList = true) : spl ((a ++ ⟨#[47]⟩) ++ b) = (a, b, true) := by
  have e1 : ((a ++ ByteArray.mk #[47]) ++ b).extract 0 a.size = a := by
    apply ByteArray.ext
    apply Array.toList_inj.1
    have hal : a.data.toList.length = a.size := (Lib.size_eq a).symm
    have hl : ((a ++ ByteArray.mk #[47]) ++ b).data.toList = a.data.toList ++ 47 :: b.data.toList := by simp
    rw [Lib.extract_data, hl, ← hal, List.drop_zero, Nat.sub_zero, take_l]
  have e2 : ((a ++ ByteArray.mk #[47]) ++ b).extract (a.size + 1) ((a ++ ByteArray.mk #[47]) ++ b).size = b := by
    apply ByteArray.ext
    apply Array.toList_inj.1
    have hal : a.data.toList.length = a.size := (Lib.size_eq a).symm
    have hl : ((a ++ ByteArray.mk #[47]) ++ b).data.toList = a.data.toList ++ 47 :: b.data.toList := by simp
    rw [Lib.extract_to_end, hl, ← hal, drop_l]
  rw [spl_at (key_at h), e1, e2, h, h2]
  rfl
theorem key_inj {a b c d : ByteArray} (h1 : nameB a.data.toList = true) (h2 : nameB b.data.toList = true) (h : keyB a b = keyB c d) : a = c ∧ b = d := by
  have e := spl_key h1 h2
  rw [keyB_yes h1 h2] at h
  cases h3 : nameB c.data.toList
  · rw [keyB_no1 h3] at h
    have := congrArg ByteArray.size h
    rw [ByteArray.size_append, ByteArray.size_append] at this
    exact absurd this (by show a.size + 1 + b.size ≠ 0; omega)
  cases h4 : nameB d.data.toList
  · rw [keyB_no2 h4] at h
    have := congrArg ByteArray.size h
    rw [ByteArray.size_append, ByteArray.size_append] at this
    exact absurd this (by show a.size + 1 + b.size ≠ 0; omega)
  · rw [keyB_yes h3 h4] at h
    have e' := spl_key h3 h4
    rw [← h, e] at e'
    injection e' with x y
    injection y with y z
    exact ⟨x, y⟩
theorem key_ne {a b : ByteArray} (h1 : nameB a.data.toList = true) (h2 : nameB b.data.toList = true) : keyB a b ≠ ⟨#[]⟩ := by
  rw [keyB_yes h1 h2]
  intro h
  have := congrArg ByteArray.size h
  rw [ByteArray.size_append, ByteArray.size_append] at this
  exact absurd this (by show a.size + 1 + b.size ≠ 0; omega)
theorem ne_str {a b : ByteArray} (h : a ≠ b) : (a.toList == b.toList) = false := by
  rw [ByteArray.toList_eq, ByteArray.toList_eq, beq_eq_false_iff_ne]
  exact fun e => h (WideShapes.bytes_inj e)
theorem ne_empty {a : ByteArray} (h : a ≠ ⟨#[]⟩) : a.toList.isEmpty = false := by
  rw [ByteArray.toList_eq]
  match e : a.data.toList with
  | [] => exact absurd (WideShapes.bytes_inj (b := ⟨#[]⟩) (by rw [e])) h
  | _ :: _ => rfl
set_option maxHeartbeats 800000 in
theorem back_in (a b c d : ByteArray) (w : World) (ha : a.size ≤ 60) (hb : b.size ≤ 60) (hc : c.size ≤ 60) (hd : d.size ≤ 60) (h1 : nameB a.data.toList = true) (h2 : nameB b.data.toList = true) :
    Calls Try.prog 4 #[.string a, .string b, .string c, .string d] w fun e w' => e = .returned (.bool true) ∧ Below w.heap.size w w' := by
  have CA := Lib.hid (fun W => name_any a W (by unfold maxLen; omega))
  have CB := Lib.hid (fun W => name_any b W (by unfold maxLen; omega))
  have CK := Lib.hid (fun W => key_any a b W (by unfold maxLen; omega) (by unfold maxLen; omega))
  have CL := Lib.hid (fun W => key_any c d W (by unfold maxLen; omega) (by unfold maxLen; omega))
  have hKs : (keyB a b).size ≤ maxLen := by
    rw [keyB_yes h1 h2, ByteArray.size_append, ByteArray.size_append]; show a.size + 1 + b.size ≤ _; unfold maxLen; omega
  have CS := Lib.hid (fun W => split_any (keyB a b) W hKs)
  simp only [h1] at CA
  simp only [h2] at CB
  have e := spl_key h1 h2
  rw [← keyB_yes h1 h2] at e
  simp only [e] at CS
  clear e hKs
  have hne := key_ne h1 h2
  have hin := fun h => key_inj (c := c) (d := d) h1 h2 h
  obtain ⟨K, hK⟩ : ∃ K, K = keyB a b := ⟨_, rfl⟩
  obtain ⟨L, hL⟩ : ∃ L, L = keyB c d := ⟨_, rfl⟩
  rw [← hK] at CK CS hne
  rw [← hL] at CL
  have HKL := Lib.hid (show K = L → a = c ∧ b = d by rw [hK, hL]; exact hin)
  have HKE := Lib.hid (show a = c → b = d → K = L by rintro rfl rfl; rw [hK, hL])
  clear hK hL hin h1 h2
  have HNE := Lib.hid hne
  clear hne
  have k0 := ne_empty HNE.out
  by_cases hac : a = c
  · by_cases hbd : b = d
    · obtain rfl := HKE.out hac hbd
      subst hac hbd
      clear HKL HKE
      go_enter Try.func4, Try.ntmps4
      go_wp2_with fail
      refine (first_any _).mono ?_; rintro e w' ⟨rfl, n, rfl⟩
      go_wp2_with fail
      refine (CK.out _).mono ?_; rintro e w' ⟨rfl, rfl⟩
      go_wp2_with fail
      refine (CL.out _).mono ?_; rintro e w' ⟨rfl, rfl⟩
      go_wp2_with fail
      refine (CA.out _).mono ?_; rintro e w' ⟨rfl, rfl⟩
      go_wp2_with fail
      refine (CB.out _).mono ?_; rintro e w' ⟨rfl, rfl⟩
      go_wp2_with fail
      refine (CS.out _).mono ?_; rintro e w' ⟨rfl, n2, rfl⟩
      go_wp2
      go_ret
      exact ⟨by first | rfl | (simp; done), below_drewN (Below.refl _ _) _⟩
    · have k1 : (K.toList == L.toList) = false := ne_str fun e => hbd (HKL.out e).2
      have k2 : (b.toList == d.toList) = false := ne_str hbd
      subst hac
      clear HKL HKE hbd
      go_enter Try.func4, Try.ntmps4
      go_wp2_with fail
      refine (first_any _).mono ?_; rintro e w' ⟨rfl, n, rfl⟩
      go_wp2_with fail
      refine (CK.out _).mono ?_; rintro e w' ⟨rfl, rfl⟩
      go_wp2_with fail
      refine (CL.out _).mono ?_; rintro e w' ⟨rfl, rfl⟩
      go_wp2_with fail
      refine (CA.out _).mono ?_; rintro e w' ⟨rfl, rfl⟩
      go_wp2_with fail
      refine (CB.out _).mono ?_; rintro e w' ⟨rfl, rfl⟩
      go_wp2_with fail
      refine (CS.out _).mono ?_; rintro e w' ⟨rfl, n2, rfl⟩
      go_wp2
      go_ret
      exact ⟨by first | rfl | (simp; done), below_drewN (Below.refl _ _) _⟩
  · have k1 : (K.toList == L.toList) = false := ne_str fun e => hac (HKL.out e).1
    have k2 : (a.toList == c.toList) = false := ne_str hac
    clear HKL HKE hac
    go_enter Try.func4, Try.ntmps4
    go_wp2_with fail
    refine (first_any _).mono ?_; rintro e w' ⟨rfl, n, rfl⟩
    go_wp2_with fail
    refine (CK.out _).mono ?_; rintro e w' ⟨rfl, rfl⟩
    go_wp2_with fail
    refine (CL.out _).mono ?_; rintro e w' ⟨rfl, rfl⟩
    go_wp2_with fail
    refine (CA.out _).mono ?_; rintro e w' ⟨rfl, rfl⟩
    go_wp2_with fail
    refine (CB.out _).mono ?_; rintro e w' ⟨rfl, rfl⟩
    go_wp2_with fail
    refine (CS.out _).mono ?_; rintro e w' ⟨rfl, n2, rfl⟩
    go_wp2
    go_ret
    exact ⟨by first | rfl | (simp; done), below_drewN (Below.refl _ _) _⟩

theorem spl_empty : spl ⟨#[]⟩ = (⟨#[]⟩, ⟨#[]⟩, false) := by decide +kernel
set_option maxHeartbeats 800000 in
theorem back_none (a b c d : ByteArray) (w : World) (ha : a.size ≤ 60) (hb : b.size ≤ 60) (hc : c.size ≤ 60) (hd : d.size ≤ 60) (p q : Bool) (h1 : nameB a.data.toList = p) (h2 : nameB b.data.toList = q) (hpq : (p && q) = false) :
    Calls Try.prog 4 #[.string a, .string b, .string c, .string d] w fun e w' => e = .returned (.bool true) ∧ Below w.heap.size w w' := by
  have CA := Lib.hid (fun W => name_any a W (by unfold maxLen; omega))
  have CB := Lib.hid (fun W => name_any b W (by unfold maxLen; omega))
  have CK := Lib.hid (fun W => key_any a b W (by unfold maxLen; omega) (by unfold maxLen; omega))
  have CL := Lib.hid (fun W => key_any c d W (by unfold maxLen; omega) (by unfold maxLen; omega))
  have CS := Lib.hid (fun W => split_any ⟨#[]⟩ W (by unfold maxLen; show 0 ≤ _; omega))
  have e : keyB a b = ⟨#[]⟩ := by unfold keyB; rw [h1, h2, hpq]; rfl
  simp only [h1] at CA
  simp only [h2] at CB
  simp only [e] at CK
  simp only [spl_empty] at CS
  obtain ⟨L, hL⟩ : ∃ L, L = keyB c d := ⟨_, rfl⟩
  rw [← hL] at CL
  clear h1 h2 e hL
  cases p <;> cases q
  all_goals first
  | (exact absurd hpq (by decide))
  | (clear hpq
     go_enter Try.func4, Try.ntmps4
     go_wp2_with fail
     refine (first_any _).mono ?_; rintro e w' ⟨rfl, n, rfl⟩
     go_wp2_with fail
     refine (CK.out _).mono ?_; rintro e w' ⟨rfl, rfl⟩
     go_wp2_with fail
     refine (CL.out _).mono ?_; rintro e w' ⟨rfl, rfl⟩
     go_wp2_with fail
     refine (CA.out _).mono ?_; rintro e w' ⟨rfl, rfl⟩
     go_wp2_with fail
     first
     | (refine (CS.out _).mono ?_; rintro e w' ⟨rfl, n2, rfl⟩)
     | (refine (CB.out _).mono ?_; rintro e w' ⟨rfl, rfl⟩
        go_wp2_with fail
        refine (CS.out _).mono ?_; rintro e w' ⟨rfl, n2, rfl⟩)
     go_wp2
     go_ret
     exact ⟨by first | rfl | (simp; done), below_drewN (Below.refl _ _) _⟩)
theorem identBack_walk (w : World) (a0 : ByteArray) (w0 : a0.size ≤ maxLen) (a1 : ByteArray) (w1 : a1.size ≤ maxLen) (a2 : ByteArray) (w2 : a2.size ≤ maxLen) (a3 : ByteArray) (w3 : a3.size ≤ maxLen) :
    Calls Try.prog 4 #[.string a0, .string a1, .string a2, .string a3] w fun e w' => e = .returned (.bool true) ∧ Below w.heap.size w w' := by
  by_cases h0 : a0.size ≤ 60 ∧ a1.size ≤ 60 ∧ a2.size ≤ 60 ∧ a3.size ≤ 60
  · obtain ⟨h0, h1, h2, h3⟩ := h0
    cases hp : nameB a0.data.toList
    · exact back_none _ _ _ _ _ h0 h1 h2 h3 _ _ hp rfl rfl
    cases hq : nameB a1.data.toList
    · exact back_none _ _ _ _ _ h0 h1 h2 h3 _ _ hp hq rfl
    · exact back_in _ _ _ _ _ h0 h1 h2 h3 hp hq
  · unfold maxLen at w0 w1 w2 w3
    have hc : 60 < a0.size ∨ (a0.size ≤ 60 ∧ 60 < a1.size) ∨ (a0.size ≤ 60 ∧ a1.size ≤ 60 ∧ 60 < a2.size) ∨ (a0.size ≤ 60 ∧ a1.size ≤ 60 ∧ a2.size ≤ 60 ∧ 60 < a3.size) := by omega
    clear h0
    rcases hc with h | ⟨h, h'⟩ | ⟨h, h', h''⟩ | ⟨h, h', h'', h'''⟩
    all_goals
      go_enter Try.func4, Try.ntmps4
      go_wp2_with fail
      refine (first_any _).mono ?_; rintro e w' ⟨rfl, n, rfl⟩
      go_wp2_with fail
      refine (first_any _).mono ?_; rintro e w' ⟨rfl, m, rfl⟩
      go_wp2
      go_ret
      exact ⟨rfl, below_drewN (Below.refl _ _) _⟩
end Go.Proofs.Ytjabpchkdcdiaaa
