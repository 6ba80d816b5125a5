/- first: what the chapter's example fixes, as it runs. -/
import Derived.Test.YtcopdhgmbflcoaaPut
import Derived.Lib.SlBytesConst
namespace Go.Proofs.Ytcopdhgmbflcoaa
open Go.RowKit
set_option linter.unusedVariables false
theorem own_text {e : TypeId} {B : Nat} {w : World} {v : Value} {l : List UInt8} (h : Own e B w v l) : (convert 22 9 v).run Try.prog w = .ok (.string ⟨l.toArray⟩) w := by
  obtain ⟨A, cap, b, rfl, hle, hmax, ha, hb, hc⟩ := h.reads
  rcases Nat.eq_zero_or_pos l.length with hz | hz
  · have hl0 : l = [] := List.length_eq_zero_iff.1 hz
    subst hl0
    rw [run_convert_bytes_string w 22 9 5 _ _ cap Try.underlying22 Try.underlying5 Try.underlying9]
    cases A <;> simp [Conv.bytesToString, loadCells]
    all_goals rfl
  · rw [(ha hz).1]
    exact run_convert_bytes_back w 22 9 5 _ cap l Try.underlying22 Try.underlying5 Try.underlying9 (fun j hj => by rw [add_plain]; exact hc j _ (List.getElem?_eq_getElem hj))
theorem put_bad {A : Option Addr} {len cap : Nat} (w : World) (k : Int) (s : ByteArray) (hk : k < 0 ∨ 255 < k) :
    Calls Try.prog 10 #[.slice A len cap, .agg #[.int .i64 k, .string s]] w fun e w' => e = .returned (.tuple #[.slice none 0 0, .int .i64 12]) ∧ Below w.heap.size w w' := by
  have HH : decide (k < 0) || decide (255 < k) := by simpa using hk
  go_enter Try.func10, Try.ntmps10
  go_wp2
  all_goals (try omega)
  all_goals (try (go_ret2; exact ⟨rfl, (Below.refl _ _).alloc (Nat.le_refl _) _⟩))
theorem put_long {A : Option Addr} {len cap : Nat} (w : World) (k : Int) (s : ByteArray) (hk : 0 ≤ k) (hk2 : k ≤ 255) (hs : 20000 < s.size) :
    Calls Try.prog 10 #[.slice A len cap, .agg #[.int .i64 k, .string s]] w fun e w' => e = .returned (.tuple #[.slice none 0 0, .int .i64 2]) ∧ Below w.heap.size w w' := by
  go_enter Try.func10, Try.ntmps10
  go_wp2_with fail
  all_goals (try omega)
  all_goals (try (go_ret2; exact ⟨rfl, (Below.refl _ _).alloc (Nat.le_refl _) _⟩))
def six : List UInt8 := [0, 0, 0, 1, 2, 2]
theorem six_put : pbs 1 ⟨#[]⟩ = six := by
  have e : (⟨#[]⟩ : ByteArray).size = 0 := rfl
  simp [pbs, hd4, sm2, fsm, sts, st0, six, e]
theorem six_next : fnx six = #[.agg #[.int .i64 1, .string ⟨#[]⟩], .int .i64 6, .int .i64 0] := by
  simp [fnx, six, hd3, fwhole, fout, fsm, sts, st0]
theorem six_byt (W : World) : Byt (W.alloc (.cells #[.int .u8 0, .int .u8 0, .int .u8 0, .int .u8 1, .int .u8 2, .int .u8 2] 5 (6, 7))) (some ⟨W.heap.size, 0, none⟩) 6 6 W.heap.size 0 six :=
  ⟨rfl, Nat.le_refl _, by decide, fun _ => ⟨rfl, by simp⟩, fun j u hu => by
    rw [Nat.zero_add, World.cell?_alloc_mark]
    have : (six.map bv)[j]? = some (bv u) := by rw [List.getElem?_map, hu]; rfl
    simpa [six, bv] using this⟩
set_option maxHeartbeats 1000000 in
theorem first_any (w : World) : Calls Try.prog 7 #[] w fun e w' => e = .returned (.bool true) ∧ Below w.heap.size w w' := by
  have CP := Lib.hid (fun W => put_ok (A := none) (len := 0) (cap := 0) (b := 0) (off := 0) (w := W) (l := []) ⟨rfl, Nat.le_refl _, Nat.zero_le _, fun h => absurd h (by simp), fun j u hu => by simp at hu⟩ (by omega) 1 ⟨#[]⟩ (by omega) (by omega) (by show 0 ≤ 20000; omega))
  have CN := Lib.hid (fun W => next_any (six_byt W))
  have kc := fun (w : World) (C : Array Value) (n c : Nat) => Lib.run_convert_bytes_const (P := Try.prog) w 22 5 C n c Try.underlying22 Try.underlying5
  go_enter Try.func7, Try.ntmps7
  go_wp2_with (first 
    | (go_at_call 10; refine (CP.out _).mono ?_; rintro _ w1 ⟨v, rfl, h1, h2⟩; have H1 := Lib.hid h1; have H2 := Lib.hid h2; clear h1 h2; have L1 := H2.out.size)
    | (go_at_call 8; refine (CN.out _).mono ?_; rintro _ w2 ⟨rfl, h1⟩; rw [six_next]; have H3 := Lib.hid h1; clear h1; have L3 := H3.out.size; have HT : (convert 22 9 v).run Try.prog (w2.alloc (.cells #[.int .i64 1, .string ⟨#[]⟩] 25)) = .ok (.string ⟨#[0, 0, 0, 1, 2, 2]⟩) (w2.alloc (.cells #[.int .i64 1, .string ⟨#[]⟩] 25)) := by
        have h := own_text (((H1.out.below ((Below.refl _ _).alloc (Nat.le_refl _) _)).below H3.out).below ((Below.refl _ _).alloc (Nat.le_refl _) (.cells #[.int .i64 1, .string ⟨#[]⟩] 25)))
        rw [six_put] at h
        exact h))
  go_ret
  refine ⟨rfl, ?_⟩
  exact ((H2.out.alloc L1 _).trans (H3.out.mono (by simp <;> omega))).alloc (by simp at L3; omega) _
end Go.Proofs.Ytcopdhgmbflcoaa
