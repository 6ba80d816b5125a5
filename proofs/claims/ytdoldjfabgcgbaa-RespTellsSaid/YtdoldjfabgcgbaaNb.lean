/- Alike: items, answers. -/
import Derived.Test.YtdoldjfabgcgbaaNa
import Derived.BigQuiet
namespace Go.Proofs.Ytdoldjfabgcgbaa
open Go.RowKit
open Go.Lib hiding intOf
set_option linter.unusedVariables false
set_option linter.unusedSimpArgs false
set_option maxRecDepth 20000
set_option maxHeartbeats 4000000 in
theorem alike_any {w : World} {A B : Option Addr} {len capA capB ba bb oa ob : Nat} {xs : List It} (h : Its w A len capA ba oa xs) (k : Its w B len capB bb ob xs) (hn : len ≤ 1000) : Calls Try.prog 33 #[.slice A len capA, .slice B len capB] w fun r w' => r = .returned (.bool true) ∧ Below w.heap.size w w' := by
  have HA := Lib.hid h
  have HB := Lib.hid k
  have hlen := h.hlen
  have hla := h.le
  have hlb := k.le
  have hnI : (len : Int) ≤ 1000 := by omega
  have H0 := Lib.hid (Below.refl w.heap.size w)
  clear h k
  go_enter Try.func33, Try.ntmps33
  go_wp2
  go_loopw [5] (fun i wr => ∃ q : Nat, q ≤ len ∧ i = .int .i64 (q : Int) ∧ Below w.heap.size w wr) (fun i _ => len - (intOf i).toNat)
  case atStart => exact ⟨0, Nat.zero_le _, rfl, H0.out⟩
  case round =>
    obtain ⟨q, hq, rfl, hB⟩ := hrel
    have HR := Lib.hid hB
    clear hB
    by_cases hql : q < len
    · obtain ⟨t, ht⟩ : ∃ t, xs[q]? = some t := ⟨xs[q]'(by rw [HA.out.hlen]; exact hql), List.getElem?_eq_getElem _⟩
      obtain ⟨rfl, hbl⟩ := HA.out.addr (by omega)
      obtain ⟨rfl, hbk⟩ := HB.out.addr (by omega)
      obtain ⟨c0, c1, c2, c3⟩ := (HA.out.below HR.out (fun _ => hbl)).cell q t ht
      obtain ⟨d0, d1, d2, d3⟩ := (HB.out.below HR.out (fun _ => hbk)).cell q t ht
      have hqI : (q : Int) < (len : Int) := by omega
      obtain ⟨tu, tv, tx, tc⟩ := t
      simp only at c0 c1 c2 c3 d0 d1 d2 d3
      clear ht
      go_wp2_with fail
      go_quiet (fail)
      have HQ := Lib.hid (below_drewN HR.out nq)
      go_wp2
      go_roundw
      case rel => exact ⟨q + 1, by omega, by go_num, HQ.out⟩
      case measure => simp [intOf]; omega
    · obtain rfl : q = len := by omega
      go_wp2
      go_ret
      exact ⟨rfl, HR.out⟩
def rpA (k e tok ver : Int) (card : ByteArray) (idx : Int) (more : Bool) (A : Option Addr) (len cap : Nat) : Array Value := #[.int .i64 k, .int .i64 e, .int .i64 tok, .int .i64 ver, .string card, .int .i64 idx, .bool more, .slice A len cap]
set_option maxHeartbeats 4000000 in
theorem sameR_any {w : World} {A B : Option Addr} {len capA capB ba bb oa ob : Nat} {xs : List It} (h : Its w A len capA ba oa xs) (h2 : Its w B len capB bb ob xs) (hn : len ≤ 1000) (k e tok ver : Int) (card : ByteArray) (idx : Int) (more : Bool) :
    Calls Try.prog 15 #[.agg #[.int .i64 k, .int .i64 e, .int .i64 tok, .int .i64 ver, .string card, .int .i64 idx, .bool more, .slice A len capA], .agg #[.int .i64 k, .int .i64 e, .int .i64 tok, .int .i64 ver, .string card, .int .i64 idx, .bool more, .slice B len capB]] w fun r w' => r = .returned (.bool true) ∧ Below w.heap.size w w' := by
  have HX := Lib.hid (Bxs.two w 25 25 #[.int .i64 k, .int .i64 e, .int .i64 tok, .int .i64 ver, .string card, .int .i64 idx, .bool more, .slice A len capA] #[.int .i64 k, .int .i64 e, .int .i64 tok, .int .i64 ver, .string card, .int .i64 idx, .bool more, .slice B len capB])
  have HAL := Lib.hid (alike_any (h.below HX.out.bel (fun hl => (h.addr hl).2)) (h2.below HX.out.bel (fun hl => (h2.addr hl).2)) hn)
  clear h h2
  go_enter Try.func15, Try.ntmps15
  go_wp2_with fail
  refine HAL.out.mono ?_
  rintro _ w1 ⟨rfl, hb⟩
  have HX1 := Lib.hid (HX.out.step hb)
  clear hb
  go_wp2
  go_ret
  exact ⟨rfl, HX1.out.bel⟩
end Go.Proofs.Ytdoldjfabgcgbaa
