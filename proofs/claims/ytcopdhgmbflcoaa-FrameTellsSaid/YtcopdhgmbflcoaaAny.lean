/- frame.Next at any bytes: what it says as a function of the bytes. -/
import Derived.Test.YtcopdhgmbflcoaaFul
namespace Go.Proofs.Ytcopdhgmbflcoaa
open Go.RowKit
structure Byt (w : World) (A : Option Addr) (len cap b off : Nat) (l : List UInt8) : Prop where
  hlen : l.length = len
  le : len ≤ cap
  hmax : cap ≤ maxLen
  addr : 0 < len → A = some ⟨b, off, none⟩ ∧ b < w.heap.size
  cell : ∀ j u, l[j]? = some u → w.cell? ⟨b, off + j, none⟩ = some (.int .u8 (u.toNat : Int))
def fwhole (m : Nat) : List UInt8 → Array Value
  | k :: r => match r.drop m with
    | p :: q :: _ => fout k p q (r.take m) m
    | _ => #[]
  | _ => #[]
def fnx : List UInt8 → Array Value
  | x :: y :: z :: r => if 20000 < hd3 x y z then #[emp, .int .i64 0, .int .i64 2] else if ((r.length : Int) < hd3 x y z + 3) then #[emp, .int .i64 0, .int .i64 14] else fwhole (hd3 x y z).toNat r
  | _ => #[emp, .int .i64 0, .int .i64 14]
theorem next_any {A : Option Addr} {len cap b off : Nat} {w : World} {l : List UInt8} (h : Byt w A len cap b off l) :
    Calls Try.prog 8 #[.slice A len cap] w fun e w' => e = .returned (.tuple (fnx l)) ∧ Below w.heap.size w w' := by
  obtain ⟨hl, hle, hmax, ha, hc⟩ := h
  match l, hl, hc with
  | [], hl, hc => exact next_short A len cap w (by simp at hl; omega)
  | [x], hl, hc => exact next_short A len cap w (by simp at hl; omega)
  | [x, y], hl, hc => exact next_short A len cap w (by simp at hl; omega)
  | x :: y :: z :: r, hl, hc =>
    simp only [List.length_cons] at hl
    obtain ⟨rfl, hb⟩ := ha (by omega)
    have h0 := hc 0 x rfl
    have h1 := hc 1 y rfl
    have h2 := hc 2 z rfl
    have hp : 0 ≤ hd3 x y z := by unfold hd3; omega
    simp only [fnx]
    by_cases hm : 20000 < hd3 x y z
    · rw [if_pos hm]
      exact next_head b off len cap w x y z (by omega) (by omega) h0 h1 h2 hb (by omega)
    · rw [if_neg hm]
      by_cases hw : (r.length : Int) < hd3 x y z + 3
      · rw [if_pos hw]
        exact next_wait b off len cap w x y z (by omega) (by omega) h0 h1 h2 hb (by omega) (by omega)
      · rw [if_neg hw]
        obtain ⟨m, hm'⟩ : ∃ m : Nat, hd3 x y z = (m : Int) := ⟨(hd3 x y z).toNat, by omega⟩
        rw [hm'] at hm hw ⊢
        match r, hl, hc, hw with
        | [], hl, hc, hw => simp at hw; omega
        | k :: r, hl, hc, hw =>
          simp only [List.length_cons] at hl hw
          have hd : (r.drop m).length = r.length - m := by simp
          match hr : r.drop m with
          | [] => rw [hr] at hd; simp at hd; omega
          | [p] => rw [hr] at hd; simp at hd; omega
          | p :: q :: s =>
            have hrp : r[m]? = some p := by have := congrArg (·[0]?) hr; simpa using this
            have hrq : r[m + 1]? = some q := by have := congrArg (·[1]?) hr; simpa using this
            have := next_full b off len cap m w (r.take m) k x y z p q (by omega) hle h0 h1 h2 (by rw [List.length_take]; omega) (fun j u hu => by
              rw [List.getElem?_take] at hu
              split at hu
              · have := hc (4 + j) u (by rw [Nat.add_comm 4 j]; exact hu)
                rwa [← Nat.add_assoc] at this
              · cases hu) (hc (m + 4) p hrp) (hc (m + 5) q hrq) (hc 3 k rfl) hb (by omega) hm' (by omega)
            simp only [Int.toNat_natCast, fwhole, hr]
            exact this
end Go.Proofs.Ytcopdhgmbflcoaa
