/- Digits: some text for each number. -/
import Derived.Test.YtmapfbnfcbkjpaaLb
import Derived.Laws.IdiomStrings
namespace Go.Proofs.Ytmapfbnfcbkjpaa
open Go.RowKit
open Go.Lib
set_option linter.unusedVariables false
set_option linter.unusedSimpArgs false
set_option maxRecDepth 100000
def dig (m : Int) : UInt8 := UInt8.ofNat (wrap64 (48 + m.tmod 10) % 256).toNat
theorem dig_nat (m : Int) : ((dig m).toNat : Int) = wrap64 (48 + m.tmod 10) % 256 := by
  unfold dig
  have h1 := Int.emod_nonneg (wrap64 (48 + m.tmod 10)) (by decide : (256 : Int) ≠ 0)
  have h2 := Int.emod_lt_of_pos (wrap64 (48 + m.tmod 10)) (by decide : (0 : Int) < 256)
  simp
  omega
def dgA : Nat → Int → ByteArray → ByteArray
  | 0, _, t => t
  | f + 1, m, t => if wrap64 (m.tdiv 10) = 0 then ⟨#[dig m]⟩ ++ t else dgA f (wrap64 (m.tdiv 10)) (⟨#[dig m]⟩ ++ t)
def dgt (n : Int) : ByteArray := dgA 20 n .empty
theorem dig_conv (w : World) (m : Int) : (convert 68 9 (.slice (some ⟨w.heap.size, 0, none⟩) 1 1)).run Try.prog (w.alloc (.cells #[.int .u8 (wrap64 (48 + m.tmod 10) % 256)] 5)) = .ok (.string ⟨#[dig m]⟩) (w.alloc (.cells #[.int .u8 (wrap64 (48 + m.tmod 10) % 256)] 5)) :=
  run_convert_bytes_back _ 68 9 5 ⟨w.heap.size, 0, none⟩ 1 [dig m] Try.underlying68 Try.underlying5 Try.underlying9 (fun j hj => by
    obtain rfl : j = 0 := by simp at hj; omega
    rw [add_plain, (Blk.new w 5 _).cell]
    simp [dig_nat])
set_option maxHeartbeats 4000000 in
theorem digits_any (w : World) (n : Int) : Calls Try.prog 22 #[.int .i64 n] w fun e w' => e = .returned (.string (dgt n)) ∧ Below w.heap.size w w' := by
  obtain ⟨R, hR⟩ : ∃ R, dgt n = R := ⟨_, rfl⟩
  have HR := Lib.hid (show dgA 20 n .empty = R from hR)
  rw [hR]
  clear hR
  go_enter Try.func22, Try.ntmps22
  go_wp2_with fail
  go_loopw [0, 3, 4] (fun nn s i wr => ∃ (q : Nat) (m : Int) (t : ByteArray), nn = .int .i64 m ∧ s = .string t ∧ i = .int .i64 (q : Int) ∧ q ≤ 20 ∧ t.size ≤ q ∧ Below w.heap.size w wr ∧ dgA (20 - q) m t = R) (fun _ _ i _ => 20 - (intOf i).toNat)
  case atStart => exact ⟨0, n, .empty, rfl, rfl, rfl, by omega, Nat.le_refl _, Below.refl _ _, HR.out⟩
  case round =>
    obtain ⟨q, m, t, rfl, rfl, rfl, hq, ht, hb, hg⟩ := hrel
    have HB := Lib.hid hb
    have HG := Lib.hid hg
    clear hb hg
    by_cases hql : q < 20
    · have hqI : (q : Int) < 20 := by omega
      have kc := dig_conv wr m
      have HG2 := Lib.hid (show (if wrap64 (m.tdiv 10) = 0 then ⟨#[dig m]⟩ ++ t else dgA (20 - (q + 1)) (wrap64 (m.tdiv 10)) (⟨#[dig m]⟩ ++ t)) = R from by
        have := HG.out
        rw [show 20 - q = (20 - (q + 1)) + 1 by omega] at this
        exact this)
      have hsz : (((⟨#[dig m]⟩ : ByteArray).size : Int) + (t.size : Int)) ≤ 9223372036854775807 := by
        have : (⟨#[dig m]⟩ : ByteArray).size = 1 := rfl
        omega
      have hsn : (⟨#[dig m]⟩ ++ t : ByteArray).size ≤ q + 1 := by
        rw [ByteArray.size_append]
        have : (⟨#[dig m]⟩ : ByteArray).size = 1 := rfl
        omega
      have HSN := Lib.hid hsn
      have HBA := Lib.hid (HB.out.alloc HB.out.size (.cells #[.int .u8 (wrap64 (48 + m.tmod 10) % 256)] 5))
      obtain ⟨d, hd⟩ : ∃ d, dig m = d := ⟨_, rfl⟩
      rw [hd] at kc HG2 HSN hsz
      clear hsn hd
      by_cases h0 : wrap64 (m.tdiv 10) = 0
      · have hF := HG2.out
        rw [if_pos h0] at hF
        have HF := Lib.hid hF
        have h0b : (wrap64 (m.tdiv 10) == 0) = true := by simpa using h0
        clear hF h0
        go_wp2
        go_ret
        exact ⟨by rw [← HF.out]; rfl, HBA.out⟩
      · have hF := HG2.out
        rw [if_neg h0] at hF
        have HF := Lib.hid hF
        have h0b : (wrap64 (m.tdiv 10) == 0) = false := by simpa using h0
        clear hF h0
        go_wp2
        exact ⟨⟨q + 1, _, _, rfl, rfl, by first | rfl | go_num, by omega, HSN.out, HBA.out, HF.out⟩, by simp [intOf]; omega⟩
    · obtain rfl : q = 20 := by omega
      have HF := Lib.hid (show t = R from HG.out)
      clear hql
      go_wp2
      go_ret
      exact ⟨by rw [← HF.out]; rfl, HB.out⟩
end Go.Proofs.Ytmapfbnfcbkjpaa
