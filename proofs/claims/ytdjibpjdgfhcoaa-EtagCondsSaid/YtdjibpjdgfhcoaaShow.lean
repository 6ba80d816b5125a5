/- Show of etag, and its check. -/
import Derived.Test.YtdjibpjdgfhcoaaShelf
import Derived.Test.YtdjibpjdgfhcoaaWords
import Derived.Test.YtdjibpjdgfhcoaaMath
import Derived.WalkKit
import Derived.Lib.Hide
import Derived.Deep.Light
import Derived.Handy
namespace Go.Proofs.Ytdjibpjdgfhcoaa
open Go.RowKit
set_option linter.unusedVariables false
def sgS : ByteArray := { data := #[48, 49, 50, 51, 52, 53, 54, 55, 56, 57, 97, 98, 99, 100, 101, 102, 103, 104, 106, 107, 109, 110, 112, 113, 114, 115, 116, 118, 119, 120, 121, 122] }
theorem idx_any (c : UInt8) (w : World) : Calls Try.prog 20 #[.string sgS, .int .u8 (c.toNat : Int)] w fun e w' => e = .returned (.int .i64 (ix c)) ∧ w = w' :=
  (Try.strings_IndexByte sgS (c.toNat : Int) w).mono fun e w' ⟨h1, h2⟩ => ⟨h1.trans (ret_i64 (by simp [ix, sgS, sgL])), h2.symm⟩
theorem sg_ext : ∀ k, k < 32 → sgS.extract k (k + 1) = ⟨#[sg k]⟩ := by decide +kernel
theorem one_sign (j : Int) (h0 : 0 ≤ j) (h1 : j < 32) (w : World) : (Instr.slice 9 (.string { data := #[48, 49, 50, 51, 52, 53, 54, 55, 56, 57, 97, 98, 99, 100, 101, 102, 103, 104, 106, 107, 109, 110, 112, 113, 114, 115, 116, 118, 119, 120, 121, 122] }) (some (.int .i64 j)) (some (.int .i64 (j + 1))) none).run Try.prog w = .ok (.string ⟨#[sg j.toNat]⟩) w := by
  obtain ⟨k, rfl⟩ : ∃ k : Nat, j = (k : Int) := ⟨j.toNat, by omega⟩
  have h := run_slice_string (P := Try.prog) (w := w) 9 sgS .i64 .i64 (k : Int) ((k : Int) + 1) Try.underlying9 (by omega) (by omega) (by show ((k : Int) + 1) ≤ 32; omega)
  rw [show ((k : Int) + 1).toNat = k + 1 by omega, show (k : Int).toNat = k by omega, sg_ext k (by omega)] at h
  exact h
theorem digits_any (w : World) : Calls Try.prog 23 #[] w fun e w' => e = .returned (.string sgS) ∧ w = w' := by
  go_enter Try.func23, Try.ntmps23
  go_wp2
  go_ret
  exact ⟨rfl, rfl⟩
theorem take_snoc (s : ByteArray) (k : Nat) (h : k < s.size) : s.data.toList.take (k + 1) = s.data.toList.take k ++ [s[k]] := by
  rw [List.take_succ_eq_append_getElem (by simpa using h)]; rfl
theorem take_all (s : ByteArray) (k : Nat) (h : ¬ k < s.size) : s.data.toList.take k = s.data.toList :=
  List.take_of_length_le (by simpa using h)
theorem ret_str {a b : ByteArray} (h : a = b) : Ending.returned (Value.string a) = .returned (.string b) := by rw [h]
set_option maxHeartbeats 400000 in
theorem check_any (s : ByteArray) (w : World) (hs : s.size ≤ 14) (hd : ∀ c ∈ s.data.toList, 0 ≤ ix c) :
    Calls Try.prog 22 #[.string s] w fun e w' => e = .returned (.string ⟨#[sg (chk s.data.toList).toNat]⟩) ∧ w = w' := by
  have HD := Lib.hid hd
  clear hd
  go_enter Try.func22, Try.ntmps22
  go_wp2
  go_loop [3, 7] (fun v i => ∃ k : Nat, k ≤ s.size ∧ i = .int .i64 k ∧ v = .int .i64 (chk (s.data.toList.take k))) (fun _ i => s.size - (intOf i).toNat)
  case atStart => exact ⟨0, Nat.zero_le _, rfl, rfl⟩
  case round =>
    obtain ⟨k, hk, rfl, rfl⟩ := hrel
    obtain ⟨r1, r2⟩ := chk_rng (s.data.toList.take k)
    by_cases hlt : k < s.size
    · have i1 := ix_lt s[k]
      have i0 : 0 ≤ ix s[k] := HD.out _ (by show s.data[k] ∈ _; simp)
      have HS := Lib.hid (take_snoc s k hlt)
      go_wp2_with fail
      refine (idx_any s[k] _).mono ?_; rintro e w' ⟨rfl, rfl⟩
      go_wp2
      exact ⟨⟨k + 1, by omega, by go_num, by rw [HS.out, chk_snoc]; rfl⟩, by simp [intOf]; omega⟩
    · have HS := Lib.hid (take_all s k hlt)
      have hsl := one_sign (chk (s.data.toList.take k)) r1 (by omega)
      go_wp2
      go_ret
      exact ⟨ret_str (by rw [HS.out]), rfl⟩

theorem ext_of {a b : ByteArray} (h : a.data.toList = b.data.toList) : a = b := WideShapes.bytes_inj h
theorem one_size (x : UInt8) : (ByteArray.mk #[x]).size = 1 := rfl
theorem shw_lt {n : Int} (h : n < 1) : shw n = ⟨#[]⟩ := by unfold shw; rw [if_pos h]
theorem shw_ge (n : Nat) (h : 1 ≤ n) (d : ByteArray) (hd : d.data.toList = digs n) : ((⟨#[34]⟩ ++ d) ++ ⟨#[sg (chk d.data.toList).toNat]⟩) ++ ⟨#[34]⟩ = shw (n : Int) := by
  unfold shw
  rw [if_neg (by omega)]
  apply ext_of
  simp [shL, hd]
theorem size_of {d : ByteArray} {l : List UInt8} (h : d.data.toList = l) : d.size = l.length := by rw [Lib.size_eq, h]
theorem digs_size {d : ByteArray} {n m : Nat} (h : digs n ++ d.data.toList = digs m) : d.size ≤ 14 := by
  have h1 := congrArg List.length h
  rw [List.length_append] at h1
  have h2 := digs_len m
  rw [Lib.size_eq]
  omega
theorem step_rel {d : ByteArray} {n m : Nat} (h0 : 0 < n) (hn : n < 9223372036854775808) (h : digs n ++ d.data.toList = digs m) : digs (n / 32) ++ ((⟨#[sg (n % 32)]⟩ : ByteArray) ++ d).data.toList = digs m := by
  rw [← h, digs_step n h0 hn]
  simp

set_option maxHeartbeats 800000 in
theorem show_any (v : Int) (w : World) (h1 : -9223372036854775808 ≤ v) (h2 : v ≤ 9223372036854775807) :
    Calls Try.prog 14 #[.int .i64 v] w fun e w' => e = .returned (.string (shw v)) ∧ w = w' := by
  by_cases hv : v < 1
  · have HS := Lib.hid (shw_lt hv)
    go_enter Try.func14, Try.ntmps14
    go_wp2
    go_ret
    exact ⟨ret_str HS.out.symm, rfl⟩
  · obtain ⟨m, rfl⟩ : ∃ m : Nat, v = (m : Int) := ⟨v.toNat, by omega⟩
    go_enter Try.func14, Try.ntmps14
    go_wp2
    go_loop [0, 3] (fun x d => ∃ (n : Nat) (s : ByteArray), n ≤ m ∧ x = .int .i64 n ∧ d = .string s ∧ Hid (digs n ++ s.data.toList = digs m)) (fun x _ => (intOf x).toNat)
    case atStart => exact ⟨m, ⟨#[]⟩, Nat.le_refl _, rfl, rfl, by show _ = _; simp⟩
    case round =>
      obtain ⟨n, s, hn, rfl, rfl, hr⟩ := hrel
      have hsz := digs_size hr.out
      by_cases h0 : 0 < n
      · have HR := Lib.hid (step_rel h0 (by omega) hr.out)
        have hsl := one_sign ((n : Int) % 32) (by omega) (by omega)
        have hcast : ((n : Int) % 32).toNat = n % 32 := by omega
        rw [hcast] at hsl
        have hz := one_size (sg (n % 32))
        have hq : (n : Int) / 32 = ((n / 32 : Nat) : Int) := by omega
        have HQ := Lib.hid hq
        clear hcast hq
        go_wp2
        exact ⟨⟨n / 32, _, by omega, by rw [← HQ.out], rfl, HR⟩, by simp [intOf]; omega⟩
      · obtain rfl : n = 0 := by omega
        have hd : s.data.toList = digs m := by have := hr.out; rwa [digs_zero, List.nil_append] at this
        have HD := Lib.hid hd
        have HF := Lib.hid (shw_ge m (by omega) s hd)
        clear hd
        go_wp2_with fail

        refine (check_any s _ hsz (fun c hc => digs_all m c (by rw [← HD.out]; exact hc))).mono ?_; rintro e w' ⟨rfl, rfl⟩
        go_wp2
        go_ret
        exact ⟨ret_str HF.out, rfl⟩
end Go.Proofs.Ytdjibpjdgfhcoaa
