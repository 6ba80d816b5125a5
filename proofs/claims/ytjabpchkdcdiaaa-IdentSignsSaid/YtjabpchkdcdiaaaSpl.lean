/- Split of ident. -/
import Derived.Test.YtjabpchkdcdiaaaUid
import Derived.Deep.QuietTactic
import Derived.BigQuiet
import Derived.RegionTactic
import Derived.Lib.IndexLaws
import Derived.Lib.IndexBytes
namespace Go.Proofs.Ytjabpchkdcdiaaa
open Go.RowKit
set_option linter.unusedVariables false
theorem cut_no (s : ByteArray) (w : World) (hs : s.size ≤ maxLen) (hi : Lib.indexByte s.data.toList 47 < 0) :
    Calls Try.prog 23 #[.string s, .string { data := #[47] }] w fun e w' => e = .returned (.tuple #[.string s, .string { data := #[] }, .bool false]) ∧ ∃ n, w' = w.drewN n := by
  unfold maxLen at hs
  go_enter Try.func23, Try.ntmps23
  go_wp2_with fail
  refine (Try.stringslite_Index_one s 47 _).mono ?_; rintro e w' ⟨rfl, rfl⟩
  obtain ⟨i, hi'⟩ : ∃ i, i = Lib.indexByte s.data.toList 47 := ⟨_, rfl⟩
  rw [← hi'] at hi ⊢
  clear hi'
  go_wp2
  go_ret3
  exact ⟨rfl, 0, rfl⟩
theorem cut_at (s : ByteArray) (w : World) (hs : s.size ≤ maxLen) (k : Nat) (hi : Lib.indexByte s.data.toList 47 = (k : Int)) (hk : k < s.size) :
    Calls Try.prog 23 #[.string s, .string { data := #[47] }] w fun e w' => e = .returned (.tuple #[.string (s.extract 0 k), .string (s.extract (k + 1) s.size), .bool true]) ∧ ∃ n, w' = w.drewN n := by
  unfold maxLen at hs
  have HI := Lib.hid hi
  clear hi
  have h1 : (0 : Int) ≤ (k : Int) := by omega
  have h2 : (k : Int) ≤ (s.size : Int) := by omega
  have h3 : (0 : Int) ≤ (k : Int) + 1 := by omega
  have h4 : (k : Int) + 1 ≤ (s.size : Int) := by omega
  go_enter Try.func23, Try.ntmps23
  go_wp2_with fail
  refine (Try.stringslite_Index_one s 47 _).mono ?_; rintro e w' ⟨rfl, rfl⟩
  rw [HI.out]
  go_wp2
  go_quiet (fail)
  go_wp2
  go_ret3
  exact ⟨rfl, _, rfl⟩

theorem scut_no (s : ByteArray) (w : World) (hs : s.size ≤ maxLen) (hi : Lib.indexByte s.data.toList 47 < 0) :
    Calls Try.prog 15 #[.string s, .string { data := #[47] }] w fun e w' => e = .returned (.tuple #[.string s, .string { data := #[] }, .bool false]) ∧ ∃ n, w' = w.drewN n := by
  have HI := Lib.hid hi
  clear hi
  go_enter Try.func15, Try.ntmps15
  go_wp2_with fail
  refine (cut_no s _ hs HI.out).mono ?_; rintro e w' ⟨rfl, n, rfl⟩
  go_wp2
  go_ret3
  exact ⟨rfl, _, rfl⟩
theorem scut_at (s : ByteArray) (w : World) (hs : s.size ≤ maxLen) (k : Nat) (hi : Lib.indexByte s.data.toList 47 = (k : Int)) (hk : k < s.size) :
    Calls Try.prog 15 #[.string s, .string { data := #[47] }] w fun e w' => e = .returned (.tuple #[.string (s.extract 0 k), .string (s.extract (k + 1) s.size), .bool true]) ∧ ∃ n, w' = w.drewN n := by
  have HI := Lib.hid hi
  clear hi
  go_enter Try.func15, Try.ntmps15
  go_wp2_with fail
  refine (cut_at s _ hs k HI.out hk).mono ?_; rintro e w' ⟨rfl, n, rfl⟩
  go_wp2
  go_ret3
  exact ⟨rfl, _, rfl⟩
def ixS (s : ByteArray) : Int := Lib.indexByte s.data.toList 47
def spl (s : ByteArray) : ByteArray × ByteArray × Bool :=
  if ixS s < 0 then (⟨#[]⟩, ⟨#[]⟩, false) else
    if nameB (s.extract 0 (ixS s).toNat).data.toList && nameB (s.extract ((ixS s).toNat + 1) s.size).data.toList then (s.extract 0 (ixS s).toNat, s.extract ((ixS s).toNat + 1) s.size, true) else (⟨#[]⟩, ⟨#[]⟩, false)
theorem ixS_lt {s : ByteArray} {k : Nat} (h : ixS s = (k : Int)) : k < s.size := by
  have := (Lib.indexByte_some h).1
  have h2 := (List.getElem?_eq_some_iff.1 this).1
  simpa using h2
theorem ext_size {s : ByteArray} {a b : Nat} (h : s.size ≤ maxLen) : (s.extract a b).size ≤ maxLen := by
  rw [Lib.size_eq, Lib.extract_data, List.length_take, List.length_drop]
  rw [Lib.size_eq] at h
  omega
theorem spl_no {s : ByteArray} (h : ixS s < 0) : spl s = (⟨#[]⟩, ⟨#[]⟩, false) := by unfold spl; rw [if_pos h]
theorem spl_at {s : ByteArray} {k : Nat} (h : ixS s = (k : Int)) : spl s = if nameB (s.extract 0 k).data.toList && nameB (s.extract (k + 1) s.size).data.toList then (s.extract 0 k, s.extract (k + 1) s.size, true) else (⟨#[]⟩, ⟨#[]⟩, false) := by
  unfold spl
  rw [if_neg (by omega), show (ixS s).toNat = k by omega]
theorem ret_spl {a b a' b' : ByteArray} {c c' : Bool} (h : (a', b', c') = (a, b, c)) : Ending.returned (.tuple #[.string a, .string b, .bool c]) = Ending.returned (.tuple #[.string a', .string b', .bool c']) := by
  injection h with h1 h2
  injection h2 with h2 h3
  subst h1 h2 h3
  rfl
set_option maxHeartbeats 400000 in
theorem split_any (s : ByteArray) (w : World) (hs : s.size ≤ maxLen) :
    Calls Try.prog 7 #[.string s] w fun e w' => e = .returned (.tuple #[.string (spl s).1, .string (spl s).2.1, .bool (spl s).2.2]) ∧ ∃ n, w' = w.drewN n := by
  by_cases h : ixS s < 0
  · have HS := Lib.hid (spl_no h)
    have HI := Lib.hid (show Lib.indexByte s.data.toList 47 < 0 from h)
    clear h
    go_enter Try.func7, Try.ntmps7
    go_wp2_with fail
    refine (scut_no s _ hs HI.out).mono ?_; rintro e w' ⟨rfl, n, rfl⟩
    go_wp2
    go_ret3
    exact ⟨ret_spl HS.out, _, rfl⟩
  · obtain ⟨k, hk⟩ : ∃ k : Nat, ixS s = (k : Int) := ⟨(ixS s).toNat, by omega⟩
    have hlt := ixS_lt hk
    have HI := Lib.hid (show Lib.indexByte s.data.toList 47 = (k : Int) from hk)
    have HS := Lib.hid (spl_at hk)
    clear hk h
    have z1 := Lib.hid (ext_size (a := 0) (b := k) hs)
    have z2 := Lib.hid (ext_size (a := k + 1) (b := s.size) hs)
    obtain ⟨a, ha⟩ : ∃ a, a = s.extract 0 k := ⟨_, rfl⟩
    obtain ⟨b, hb⟩ : ∃ b, b = s.extract (k + 1) s.size := ⟨_, rfl⟩
    have HC := Lib.hid (fun W => scut_at s W hs k HI.out hlt)
    rw [← ha, ← hb] at HS HC
    rw [← ha] at z1
    rw [← hb] at z2
    clear ha hb
    cases h1 : nameB a.data.toList
    · have HS2 := Lib.hid (HS.out.trans (by rw [h1]))
      go_enter Try.func7, Try.ntmps7
      go_wp2_with fail
      refine (HC.out _).mono ?_; rintro e w' ⟨rfl, n, rfl⟩
      go_wp2_with (go_at_call 9; refine (name_any _ _ z1.out).mono ?_; rintro e w' ⟨rfl, rfl⟩)
      go_ret3
      exact ⟨ret_spl HS2.out, _, rfl⟩
    cases h2 : nameB b.data.toList
    · have HS2 := Lib.hid (HS.out.trans (by rw [h1, h2]))
      go_enter Try.func7, Try.ntmps7
      go_wp2_with fail
      refine (HC.out _).mono ?_; rintro e w' ⟨rfl, n, rfl⟩
      go_wp2_with fail
      refine (name_any _ _ z1.out).mono ?_; rintro e w' ⟨rfl, rfl⟩
      go_wp2_with fail
      refine (name_any _ _ z2.out).mono ?_; rintro e w' ⟨rfl, rfl⟩
      go_wp2
      go_ret3
      exact ⟨ret_spl HS2.out, _, rfl⟩
    · have HS2 := Lib.hid (HS.out.trans (by rw [h1, h2]))
      go_enter Try.func7, Try.ntmps7
      go_wp2_with fail
      refine (HC.out _).mono ?_; rintro e w' ⟨rfl, n, rfl⟩
      go_wp2_with fail
      refine (name_any _ _ z1.out).mono ?_; rintro e w' ⟨rfl, rfl⟩
      go_wp2_with fail
      refine (name_any _ _ z2.out).mono ?_; rintro e w' ⟨rfl, rfl⟩
      go_wp2
      go_ret3
      exact ⟨ret_spl HS2.out, _, rfl⟩

/-- No slash so far. -/
theorem ix_none (s : ByteArray) (h : ∀ j (hj : j < s.size), s[j] ≠ 47) : ixS s = -1 := by
  have h1 := Lib.indexByte_ge s.data.toList 47
  rcases Int.lt_or_le (Lib.indexByte s.data.toList 47) 0 with h2 | h2
  · show Lib.indexByte s.data.toList 47 = -1; omega
  · obtain ⟨k, hk⟩ : ∃ k : Nat, ixS s = (k : Int) := ⟨(ixS s).toNat, by unfold ixS; omega⟩
    have hlt := ixS_lt hk
    have h3 := (Lib.indexByte_some hk).1
    have h4 : s.data.toList[k]? = some s[k] := by rw [List.getElem?_eq_getElem (by simpa using hlt)]; rfl
    rw [h4] at h3
    injection h3 with h3
    exact absurd h3 (h k hlt)
theorem ix_some (s : ByteArray) (k : Nat) (hk : k < s.size) (h : ∀ j (hj : j < s.size), j < k → s[j] ≠ 47) (h47 : s[k] = 47) : ixS s = (k : Int) := by
  have h1 := Lib.indexByte_ge s.data.toList 47
  have h4 : ∀ j (hj : j < s.size), s.data.toList[j]? = some s[j] := fun j hj => by rw [List.getElem?_eq_getElem (by simpa using hj)]; rfl
  rcases Int.lt_or_le (Lib.indexByte s.data.toList 47) 0 with h2 | h2
  · have := Lib.indexByte_none (show Lib.indexByte s.data.toList 47 = -1 by omega) k
    rw [h4 k hk, h47] at this
    exact absurd rfl this
  · obtain ⟨m, hm⟩ : ∃ m : Nat, ixS s = (m : Int) := ⟨(ixS s).toNat, by unfold ixS; omega⟩
    have hlt := ixS_lt hm
    have h3 := Lib.indexByte_some hm
    rw [hm]
    rcases Nat.lt_trichotomy m k with c | c | c
    · have := h3.1
      rw [h4 m hlt] at this
      injection this with this
      exact absurd this (h m hlt c)
    · rw [c]
    · have := h3.2 k c
      rw [h4 k hk, h47] at this
      exact absurd rfl this
end Go.Proofs.Ytjabpchkdcdiaaa
