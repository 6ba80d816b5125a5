/- IdentSigns' walk. -/
import Derived.Test.YtjabpchkdcdiaaaFst
namespace Go.Proofs.Ytjabpchkdcdiaaa
open Go.RowKit
set_option linter.unusedVariables false
theorem uid_of_name {l : List UInt8} (h : nameB l = true) : uidB l = true := by
  simp only [nameB, Bool.and_eq_true, decide_eq_true_eq] at h
  obtain ⟨⟨⟨⟨h1, h2⟩, _⟩, _⟩, h5⟩ := h
  simp only [uidB, Bool.and_eq_true, decide_eq_true_eq]
  refine ⟨⟨h1, by omega⟩, ?_⟩
  rw [List.all_eq_true] at h5 ⊢
  intro x hx
  have := h5 x hx
  simp only [nmB, Bool.or_eq_true] at this
  simp only [uiB, spB, Bool.or_eq_true]
  rcases this with (h | h) | h
  · exact .inl (.inl (.inl h))
  · exact .inl (.inr h)
  · exact .inr (.inl (.inl (.inl h)))
theorem name_snoc {l : List UInt8} (h : nameB l = true) (c : UInt8) : nameB (l ++ [c]) = ((lowB c || digB c) && decide (l.length + 1 ≤ 16)) := by
  simp only [nameB, Bool.and_eq_true, decide_eq_true_eq] at h
  obtain ⟨⟨⟨⟨h1, h2⟩, h3⟩, h4⟩, h5⟩ := h
  have e1 : (l ++ [c]).getD 0 0 = l.getD 0 0 := by
    match l, h1 with
    | a :: l', _ => rfl
  have e2 : (l ++ [c]).getD ((l ++ [c]).length - 1) 0 = c := by
    simp [List.getD]
  simp only [nameB, e1, e2, h3, List.all_append, h5, Bool.true_and, Bool.and_true]
  by_cases hc : (c.toNat : Int) = 45
  · have hl : lowB c = false := by unfold lowB; rw [hc]; rfl
    have hd : digB c = false := by unfold digB; rw [hc]; rfl
    simp [hc, hl, hd]
  · have hc' : ((c.toNat : Int) == 45) = false := by simpa using hc
    simp only [hc', nmB, List.all_cons, List.all_nil, Bool.and_true, Bool.or_false, Bool.not_false, List.length_append, List.length_cons, List.length_nil]
    have : decide (1 ≤ l.length + (0 + 1)) = true := by simp
    rw [this, Bool.true_and, Bool.and_comm]
theorem name_dash {l : List UInt8} : nameB (45 :: l) = false := by
  have : lowB ((45 :: l).getD 0 0) = false := by simp [List.getD]; decide
  simp only [nameB, this]; simp
theorem name_end {l : List UInt8} : nameB (l ++ [45]) = false := by
  have e2 : (l ++ [45]).getD ((l ++ [45]).length - 1) 0 = 45 := by simp [List.getD]
  simp only [nameB, e2]; simp
theorem byte_of (b : Int) (h : 0 ≤ b ∧ b ≤ 255) : ∃ u : UInt8, b = (u.toNat : Int) :=
  ⟨UInt8.ofNat b.toNat, by simp; omega⟩
theorem one_string (u : UInt8) (W : World) (n : Nat) : (convert 29 9 (.slice (some ⟨W.heap.size, 0, none⟩) 1 1)).run Try.prog ((W.drewN n).alloc (.cells #[.int .u8 (u.toNat : Int)] 5)) = .ok (.string ⟨#[u]⟩) ((W.drewN n).alloc (.cells #[.int .u8 (u.toNat : Int)] 5)) :=
  run_convert_bytes_back _ 29 9 5 _ 1 [u] Try.underlying29 Try.underlying5 Try.underlying9 (fun j hj => by
    obtain rfl : j = 0 := by simpa using hj
    exact (Blk.new (W.drewN n) 5 #[.int .u8 (u.toNat : Int)]).cell 0)
theorem byte_cases (c : UInt8) : (((c.toNat : Int) < 48) ∨ (48 ≤ (c.toNat : Int) ∧ (c.toNat : Int) ≤ 57) ∨ (57 < (c.toNat : Int) ∧ (c.toNat : Int) < 97) ∨ (97 ≤ (c.toNat : Int) ∧ (c.toNat : Int) ≤ 122) ∨ 122 < (c.toNat : Int)) := by omega
set_option maxHeartbeats 800000 in
theorem signs_in (s : ByteArray) (u : UInt8) (w : World) (h : nameB s.data.toList = true) :
    Calls Try.prog 5 #[.string s, .int .u8 (u.toNat : Int)] w fun e w' => e = .returned (.bool true) ∧ Below w.heap.size w w' := by
  obtain ⟨l1, l2⟩ := name_len h
  have hb1 : (0 : Int) ≤ (u.toNat : Int) := by omega
  have hcv := one_string u w
  have hsz : (s ++ ByteArray.mk #[u]).size = s.size + 1 := by rw [ByteArray.size_append]; rfl
  have C9 := Lib.hid (fun W => name_any s W (by unfold maxLen; omega))
  have C11 := Lib.hid (fun W => uid_any s W (by unfold maxLen; omega))
  have T9 := Lib.hid (fun W => name_any (s ++ ByteArray.mk #[u]) W (by unfold maxLen; omega))
  have D9 := Lib.hid (fun W => name_any (ByteArray.mk #[45] ++ s) W (by unfold maxLen; rw [ByteArray.size_append]; show 1 + s.size ≤ _; omega))
  have E9 := Lib.hid (fun W => name_any (s ++ ByteArray.mk #[45]) W (by unfold maxLen; rw [ByteArray.size_append]; show s.size + 1 ≤ _; omega))
  have t1 : (s ++ ByteArray.mk #[u]).data.toList = s.data.toList ++ [u] := by simp
  have t2 : (ByteArray.mk #[45] ++ s).data.toList = 45 :: s.data.toList := by simp
  have t3 : (s ++ ByteArray.mk #[45]).data.toList = s.data.toList ++ [45] := by simp
  have hlen : s.data.toList.length = s.size := (Lib.size_eq s).symm
  simp only [t1, name_snoc h u, hlen] at T9
  simp only [t2, name_dash] at D9
  simp only [t3, name_end] at E9
  simp only [uid_of_name h] at C11
  simp only [h] at C9
  clear t1 t2 t3 hlen h
  have hz1 : ¬ (s.size + 1 > 9223372036854775807) := by omega
  have hz2 : ¬ (1 + s.size > 9223372036854775807) := by omega
  have HSZ := Lib.hid hsz
  rcases byte_cases u with hc | ⟨hc1, hc2⟩ | ⟨hc1, hc2⟩ | ⟨hc1, hc2⟩ | hc
  · have hv : (lowB u || digB u) = false := by simp only [lowB, digB, Bool.or_eq_false_iff, Bool.and_eq_false_iff, decide_eq_false_iff_not]; omega
    simp only [hv] at T9
    clear hv
    by_cases h16 : s.size + 1 ≤ 16
    all_goals
      simp only [h16, decide_true, decide_false, Bool.and_true, Bool.and_false, Bool.true_and, Bool.false_and] at T9
      go_enter Try.func5, Try.ntmps5
      go_wp2_with fail
      refine (first_any _).mono ?_; rintro e w' ⟨rfl, n, rfl⟩
      go_wp2_with fail
      refine (C9.out _).mono ?_; rintro e w' ⟨rfl, rfl⟩
      go_wp2_with fail
      refine (C11.out _).mono ?_; rintro e w' ⟨rfl, rfl⟩
      go_wp2_with fail
      refine (T9.out _).mono ?_; rintro e w' ⟨rfl, rfl⟩
      go_wp2_with fail
      refine (D9.out _).mono ?_; rintro e w' ⟨rfl, rfl⟩
      go_wp2_with fail
      refine (E9.out _).mono ?_; rintro e w' ⟨rfl, rfl⟩
      go_wp2
      go_ret
      exact ⟨by first | rfl | (simp; done) | (simp; omega), (below_drewN (Below.refl _ _) _).alloc (Nat.le_refl _) _⟩
  · have hv : (lowB u || digB u) = true := by simp only [lowB, digB, Bool.or_eq_true, Bool.and_eq_true, decide_eq_true_eq]; omega
    simp only [hv] at T9
    clear hv
    by_cases h16 : s.size + 1 ≤ 16
    all_goals
      simp only [h16, decide_true, decide_false, Bool.and_true, Bool.and_false, Bool.true_and, Bool.false_and] at T9
      go_enter Try.func5, Try.ntmps5
      go_wp2_with fail
      refine (first_any _).mono ?_; rintro e w' ⟨rfl, n, rfl⟩
      go_wp2_with fail
      refine (C9.out _).mono ?_; rintro e w' ⟨rfl, rfl⟩
      go_wp2_with fail
      refine (C11.out _).mono ?_; rintro e w' ⟨rfl, rfl⟩
      go_wp2_with fail
      refine (T9.out _).mono ?_; rintro e w' ⟨rfl, rfl⟩
      go_wp2_with fail
      refine (D9.out _).mono ?_; rintro e w' ⟨rfl, rfl⟩
      go_wp2_with fail
      refine (E9.out _).mono ?_; rintro e w' ⟨rfl, rfl⟩
      go_wp2
      go_ret
      exact ⟨by first | rfl | (simp; done) | (simp; omega), (below_drewN (Below.refl _ _) _).alloc (Nat.le_refl _) _⟩
  · have hv : (lowB u || digB u) = false := by simp only [lowB, digB, Bool.or_eq_false_iff, Bool.and_eq_false_iff, decide_eq_false_iff_not]; omega
    simp only [hv] at T9
    clear hv
    by_cases h16 : s.size + 1 ≤ 16
    all_goals
      simp only [h16, decide_true, decide_false, Bool.and_true, Bool.and_false, Bool.true_and, Bool.false_and] at T9
      go_enter Try.func5, Try.ntmps5
      go_wp2_with fail
      refine (first_any _).mono ?_; rintro e w' ⟨rfl, n, rfl⟩
      go_wp2_with fail
      refine (C9.out _).mono ?_; rintro e w' ⟨rfl, rfl⟩
      go_wp2_with fail
      refine (C11.out _).mono ?_; rintro e w' ⟨rfl, rfl⟩
      go_wp2_with fail
      refine (T9.out _).mono ?_; rintro e w' ⟨rfl, rfl⟩
      go_wp2_with fail
      refine (D9.out _).mono ?_; rintro e w' ⟨rfl, rfl⟩
      go_wp2_with fail
      refine (E9.out _).mono ?_; rintro e w' ⟨rfl, rfl⟩
      go_wp2
      go_ret
      exact ⟨by first | rfl | (simp; done) | (simp; omega), (below_drewN (Below.refl _ _) _).alloc (Nat.le_refl _) _⟩
  · have hv : (lowB u || digB u) = true := by simp only [lowB, digB, Bool.or_eq_true, Bool.and_eq_true, decide_eq_true_eq]; omega
    simp only [hv] at T9
    clear hv
    by_cases h16 : s.size + 1 ≤ 16
    all_goals
      simp only [h16, decide_true, decide_false, Bool.and_true, Bool.and_false, Bool.true_and, Bool.false_and] at T9
      go_enter Try.func5, Try.ntmps5
      go_wp2_with fail
      refine (first_any _).mono ?_; rintro e w' ⟨rfl, n, rfl⟩
      go_wp2_with fail
      refine (C9.out _).mono ?_; rintro e w' ⟨rfl, rfl⟩
      go_wp2_with fail
      refine (C11.out _).mono ?_; rintro e w' ⟨rfl, rfl⟩
      go_wp2_with fail
      refine (T9.out _).mono ?_; rintro e w' ⟨rfl, rfl⟩
      go_wp2_with fail
      refine (D9.out _).mono ?_; rintro e w' ⟨rfl, rfl⟩
      go_wp2_with fail
      refine (E9.out _).mono ?_; rintro e w' ⟨rfl, rfl⟩
      go_wp2
      go_ret
      exact ⟨by first | rfl | (simp; done) | (simp; omega), (below_drewN (Below.refl _ _) _).alloc (Nat.le_refl _) _⟩
  · have hv : (lowB u || digB u) = false := by simp only [lowB, digB, Bool.or_eq_false_iff, Bool.and_eq_false_iff, decide_eq_false_iff_not]; omega
    simp only [hv] at T9
    clear hv
    by_cases h16 : s.size + 1 ≤ 16
    all_goals
      simp only [h16, decide_true, decide_false, Bool.and_true, Bool.and_false, Bool.true_and, Bool.false_and] at T9
      go_enter Try.func5, Try.ntmps5
      go_wp2_with fail
      refine (first_any _).mono ?_; rintro e w' ⟨rfl, n, rfl⟩
      go_wp2_with fail
      refine (C9.out _).mono ?_; rintro e w' ⟨rfl, rfl⟩
      go_wp2_with fail
      refine (C11.out _).mono ?_; rintro e w' ⟨rfl, rfl⟩
      go_wp2_with fail
      refine (T9.out _).mono ?_; rintro e w' ⟨rfl, rfl⟩
      go_wp2_with fail
      refine (D9.out _).mono ?_; rintro e w' ⟨rfl, rfl⟩
      go_wp2_with fail
      refine (E9.out _).mono ?_; rintro e w' ⟨rfl, rfl⟩
      go_wp2
      go_ret
      exact ⟨by first | rfl | (simp; done) | (simp; omega), (below_drewN (Below.refl _ _) _).alloc (Nat.le_refl _) _⟩

theorem identSigns_walk (w : World) (a0 : ByteArray) (w0 : a0.size ≤ maxLen) (a1 : Int) (w1 : (Lit.int .u8 a1).wf = true) :
    Calls Try.prog 5 #[.string a0, .int .u8 a1] w fun e w' => e = .returned (.bool true) ∧ Below w.heap.size w w' := by
  have hx : 0 ≤ a1 ∧ a1 ≤ 255 := by simpa [Lit.wf, IntKind.min, IntKind.max, IntKind.signed, IntKind.bits] using w1
  obtain ⟨u, rfl⟩ := byte_of a1 hx
  clear hx w1
  cases h : nameB a0.data.toList
  · by_cases h0 : 100 < a0.size
    all_goals
      have H := Lib.hid h
      clear h
      have W0 := Lib.hid w0
      unfold maxLen at w0
      go_enter Try.func5, Try.ntmps5
      go_wp2_with fail
      refine (first_any _).mono ?_; rintro e w' ⟨rfl, n, rfl⟩
      try (go_wp2_with fail; refine (name_any _ _ W0.out).mono ?_; rintro e w' ⟨rfl, rfl⟩; rw [H.out])
      go_wp2_with fail
      refine (first_any _).mono ?_; rintro e w' ⟨rfl, m, rfl⟩
      go_wp2
      go_ret
      exact ⟨rfl, below_drewN (Below.refl _ _) _⟩
  · exact signs_in _ _ _ h
end Go.Proofs.Ytjabpchkdcdiaaa
