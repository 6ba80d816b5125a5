/- FrameLong: its walk. -/
import Derived.Test.YtcopdhgmbflcoaaFst
namespace Go.Proofs.Ytcopdhgmbflcoaa
open Go.RowKit
set_option linter.unusedVariables false
theorem byt_open {w : World} {A : Option Addr} {len cap : Nat} (S : Sh.ok w (Sh.slice 1 (Sh.int .u8)) [.slice A len cap]) : ∃ b off l, Byt w A len cap b off l := by
  obtain ⟨b, off, hle, hmax, ha, hc⟩ := slice_at S (by omega)
  have H : ∀ i, i < len → ∃ u : UInt8, w.cell? ⟨b, off + i, none⟩ = some (.int .u8 (u.toNat : Int)) := by
    intro i hi
    obtain ⟨cs, hl, hok, hcell⟩ := hc i hi
    simp only [Sh.ok] at hok
    obtain ⟨x, rfl, wf⟩ := hok
    have hx : 0 ≤ x ∧ x ≤ 255 := by simpa [Lit.wf, IntKind.min, IntKind.max, IntKind.signed, IntKind.bits] using wf
    have := hcell 0 (by omega)
    simp at this
    exact ⟨UInt8.ofNat x.toNat, by rw [this, UInt8.toNat_ofNat']; congr 2; omega⟩
  refine ⟨b, off, List.ofFn (fun i : Fin len => Classical.choose (H i.1 i.2)), by simp, hle, hmax, ha, fun j u hu => ?_⟩
  have hj : j < len := by have := (List.getElem?_eq_some_iff.1 hu).1; simpa using this
  rw [List.getElem?_eq_getElem (by simpa using hj)] at hu
  simp only [List.getElem_ofFn, Option.some.injEq] at hu
  rw [← hu]
  exact Classical.choose_spec (H j hj)
theorem Own.byt {e : TypeId} {B : Nat} {w : World} {v : Value} {l : List UInt8} (h : Own e B w v l) : ∃ A cap b, v = .slice A l.length cap ∧ Byt w A l.length cap b 0 l := by
  obtain ⟨A, cap, b, rfl, hle, hmax, ha, hb, hc⟩ := h.reads
  exact ⟨A, cap, b, rfl, rfl, hle, hmax, ha, fun j u hu => hc j u hu⟩
theorem Own.bytL {e : TypeId} {B : Nat} {w : World} {v : Value} {l : List UInt8} (h : Own e B w v l) : ∃ A L cap b, v = .slice A L cap ∧ L = l.length ∧ L ≤ cap ∧ cap ≤ maxLen ∧ Byt w A L cap b 0 l := by
  obtain ⟨A, cap, b, rfl, hb⟩ := h.byt
  exact ⟨A, _, cap, b, rfl, rfl, hb.le, hb.hmax, hb⟩
theorem Byt.first {w : World} {A : Option Addr} {len cap b off : Nat} {l : List UInt8} (h : Byt w A len cap b off l) (k : Nat) (hk : k ≤ len) : Byt w A k cap b off (l.take k) :=
  ⟨by rw [List.length_take, h.hlen]; omega, Nat.le_trans hk h.le, h.hmax, fun hz => h.addr (by omega), fun j u hu => by
    rw [List.getElem?_take] at hu
    split at hu
    · exact h.cell j u hu
    · cases hu⟩
theorem Byt.srcs {w : World} {A : Option Addr} {len cap b off : Nat} {l : List UInt8} (h : Byt w A len cap b off l) : Src Try.prog 1 22 (.slice A len cap) l.length (l.map bv) w := by
  cases A with
  | some a => exact h.src
  | none =>
    have hz : len = 0 := by
      rcases Nat.eq_zero_or_pos len with hz | hz
      · exact hz
      · have := (h.addr hz).1; cases this
    have hl := h.hlen
    subst hz
    have hl0 : l = [] := List.length_eq_zero_iff.1 hl
    subst hl0
    exact Src.ofNil w Try.underlying22 _
theorem fnx_long {x y z : UInt8} {r : List UInt8} (h : 20000 < hd3 x y z) : fnx (x :: y :: z :: r) = #[emp, .int .i64 0, .int .i64 2] := by simp only [fnx]; rw [if_pos h]
theorem fnx_wait {x y z : UInt8} {r : List UInt8} (h : ¬ 20000 < hd3 x y z) (h2 : (r.length : Int) < hd3 x y z + 3) : fnx (x :: y :: z :: r) = #[emp, .int .i64 0, .int .i64 14] := by
  simp only [fnx]; rw [if_neg h, if_pos h2]
theorem fnx_code {x y z : UInt8} {r : List UInt8} (h : ¬ 20000 < hd3 x y z) : ∃ (k n c : Int) (s : ByteArray), fnx (x :: y :: z :: r) = #[.agg #[.int .i64 k, .string s], .int .i64 n, .int .i64 c] ∧ c ≠ 2 := by
  have hp : 0 ≤ hd3 x y z := by unfold hd3; omega
  by_cases h2 : (r.length : Int) < hd3 x y z + 3
  · exact ⟨0, 0, 14, ⟨#[]⟩, fnx_wait h h2, by omega⟩
  · simp only [fnx]; rw [if_neg h, if_neg h2]
    match r, h2 with
    | [], h2 => simp at h2; omega
    | k :: r, h2 =>
      simp only [List.length_cons] at h2
      have hd : (r.drop (hd3 x y z).toNat).length = r.length - (hd3 x y z).toNat := by simp
      simp only [fwhole]
      match hr : r.drop (hd3 x y z).toNat with
      | [] => rw [hr] at hd; simp at hd; omega
      | [p] => rw [hr] at hd; simp at hd; omega
      | p :: q :: s =>
        simp only [fout]
        split
        · exact ⟨_, _, 0, _, rfl, by omega⟩
        · exact ⟨0, 0, 1, ⟨#[]⟩, rfl, by omega⟩
def b3 (m : Nat) : List UInt8 := [UInt8.ofNat (m / 65536), UInt8.ofNat (m / 256), UInt8.ofNat m]
theorem hd3_b3 (m : Nat) (h : m < 16777216) : hd3 (UInt8.ofNat (m / 65536)) (UInt8.ofNat (m / 256)) (UInt8.ofNat m) = (m : Int) := by
  unfold hd3
  rw [UInt8.toNat_ofNat', UInt8.toNat_ofNat', UInt8.toNat_ofNat']
  omega
theorem b3_own (W : World) (B : Nat) (hB : B ≤ W.heap.size) (m : Nat) : Own 5 B (W.alloc (.cells #[.int .u8 ((m : Int) / 65536 % 256), .int .u8 ((m : Int) / 256 % 256), .int .u8 ((m : Int) % 256)] 5)) (.slice (some ⟨W.heap.size, 0, none⟩) 3 3) (b3 m) := by
  refine ⟨_, 3, rfl, Nat.le_refl _, by decide, .inr ⟨W.heap.size, _, rfl, hB, heap_alloc_new _ _, rfl, ?_⟩⟩
  simp only [b3, List.map_cons, List.map_nil, bv_ofNat, IntKind.wrap_u8']
  have e : ((m / 65536 : Nat) : Int) % 256 = (m : Int) / 65536 % 256 := by omega
  have e2 : ((m / 256 : Nat) : Int) % 256 = (m : Int) / 256 % 256 := by omega
  rw [e, e2]; rfl
theorem fnx_b3 (m : Nat) (hm : m < 16777216) (l : List UInt8) (hl : l.length ≤ 100) : ∃ (k n c : Int) (s : ByteArray), fnx (b3 m ++ l) = #[.agg #[.int .i64 k, .string s], .int .i64 n, .int .i64 c] ∧ (20000 < (m : Int) → c = 2) ∧ (¬ 20000 < (m : Int) → 100 < (m : Int) → c = 14) ∧ (¬ 20000 < (m : Int) → c ≠ 2) := by
  have e := hd3_b3 m hm
  show ∃ (k n c : Int) (s : ByteArray), fnx (_ :: _ :: _ :: l) = _ ∧ _
  by_cases h : 20000 < (m : Int)
  · exact ⟨_, _, _, _, fnx_long (by rw [e]; exact h), fun _ => rfl, fun h2 => absurd h h2, fun h2 => absurd h h2⟩
  · by_cases h2 : 100 < (m : Int)
    · exact ⟨_, _, _, _, fnx_wait (by rw [e]; exact h) (by rw [e]; omega), fun h3 => absurd h3 h, fun _ _ => rfl, fun _ => by omega⟩
    · obtain ⟨k, n, c, s, h3, h4⟩ := fnx_code (r := l) (show ¬ 20000 < hd3 _ _ _ by rw [e]; exact h)
      exact ⟨k, n, c, s, h3, fun h5 => absurd h5 h, fun _ h5 => absurd h5 h2, fun _ => h4⟩
set_option maxHeartbeats 1000000 in
theorem long_go (w : World) (a0 : Int) (A : Option Addr) (len cap b off : Nat) (l : List UInt8) (h : Byt w A len cap b off l) (hlen : len ≤ 100) :
    Calls Try.prog 6 #[.int .i64 a0, .slice A len cap] w fun e w' => e = .returned (.bool true) ∧ Below w.heap.size w w' := by
  have CF := Lib.hid first_any
  obtain ⟨m, hm⟩ : ∃ m : Nat, a0 % 16777216 = (m : Int) := ⟨(a0 % 16777216).toNat, by omega⟩
  have hm2 : m < 16777216 := by omega
  have n0 : bits .and .i64 a0 16777215 = (m : Int) := (i64_low a0 24 (by omega)).trans hm
  have n1 : bits .and .i64 ((m : Int) / 256) 255 = (m : Int) / 256 % 256 := i64_low _ 8 (by omega)
  have n2 : bits .and .i64 (m : Int) 255 = (m : Int) % 256 := i64_low _ 8 (by omega)
  obtain ⟨k, n, c, s, hf, f1, f2, f3⟩ := fnx_b3 m hm2 l (by rw [h.hlen]; exact hlen)
  have HB := Lib.hid h
  have HF := Lib.hid hf
  have FF := Lib.hid (And.intro f1 (And.intro f2 f3))
  have HM2 := Lib.hid hm2
  clear h hf f1 f2 f3 hm hm2
  obtain ⟨i0, hi, hz0, hz1, hz2⟩ := info_parts info5
  go_enter Try.func6, Try.ntmps6
  go_wp2_with (first
    | (go_at_call 7; refine (CF.out _).mono ?_; rintro _ w1 ⟨rfl, h1⟩; have H1 := Lib.hid h1; clear h1; have L1 := H1.out.size)
    | (at_builtin; refine wpList_own_append (e := 5) (t := 22) (tx := 22) (z := .int .u8 0) (i := i0) (B := w.heap.size) (v := .slice (some ⟨w1.heap.size, 0, none⟩) 3 3) (l := b3 m) _ rfl (.tmp 30) (.tmp 31) rfl Try.underlying22 hi hz0 hz1 hz2 rfl rfl (b3_own _ _ L1 m) ?hB (.slice A len cap) rfl l ((HB.out.below (H1.out.alloc L1 _)).srcs) ?h63 ?hK
       case hB => (simp <;> omega)
       case h63 => (have h9 := HB.out.hlen; rw [h9]; simp [b3]; omega)
       intro v2 w2 h1 h2
       obtain ⟨A2, L, cap2, b2, rfl, hL, hLc, hLm, hb2⟩ := h1.bytL
       have hL3 : 3 ≤ L := by rw [hL]; simp [b3]
       obtain ⟨rfl, _⟩ := hb2.addr (by omega)
       clear hL
       have HB2 := Lib.hid hb2
       have H2 := Lib.hid ((H1.out.alloc L1 _).trans h2)
       have L2 := H2.out.size
       clear h1 h2 hb2)
    | (go_at_call 8; refine (next_any HB2.out).mono ?_; rintro _ w3 ⟨rfl, h1⟩; rw [HF.out]; have H3 := Lib.hid h1; have HB3 := Lib.hid ((HB2.out.first 2 (by omega)).below h1); clear h1 HB2; have L3 := H3.out.size)
    | (go_at_call 8; refine (next_any (HB3.out.below ((Below.refl _ _).alloc (Nat.le_refl _) _))).mono ?_; rintro _ w4 ⟨rfl, h1⟩; rw [show fnx (List.take 2 (b3 m ++ l)) = #[.agg #[.int .i64 0, .string ⟨#[]⟩], .int .i64 0, .int .i64 14] from rfl]; have H4 := Lib.hid h1; clear h1 HB3; have L4 := H4.out.size))
  all_goals (
    go_ret
    have hF := FF.out
    refine ⟨?_, ?_⟩
    · first
        | (have hc : c = 2 := by omega
           rw [hc]; rfl)
        | (have hc : c = 14 := by omega
           rw [hc]; rfl)
        | (exfalso; omega)
        | (have hc : c ≠ 2 := by omega
           simp [hc])
    · first
        | exact ((H2.out.trans (H3.out.mono L2)).alloc (Nat.le_trans L2 L3) _)
        | exact (((H2.out.trans (H3.out.mono L2)).alloc (Nat.le_trans L2 L3) _).trans (H4.out.mono (by simp at L4 ⊢; omega))).alloc (by simp at L4 ⊢; omega) _)
theorem long_big (w : World) (a0 : Int) (A : Option Addr) (len cap : Nat) (hlen : 100 < len) :
    Calls Try.prog 6 #[.int .i64 a0, .slice A len cap] w fun e w' => e = .returned (.bool true) ∧ Below w.heap.size w w' := by
  have CF := Lib.hid first_any
  go_enter Try.func6, Try.ntmps6
  have H0 := Lib.hid (Below.refl w.heap.size w)
  go_wp2_with (go_at_call 7; refine (CF.out _).mono ?_; rintro _ w1 ⟨rfl, h1⟩; have H0 := Lib.hid (H0.out.trans (h1.mono H0.out.size)); clear h1)
  all_goals (try omega)
  go_ret
  exact ⟨rfl, Hid.out ‹Hid (Below w.heap.size w _)›⟩
theorem frameLong_walk (w : World) (a0 : Int) (w0 : (Lit.int .i64 a0).wf = true) (A1 : Option Addr) (len1 cap1 : Nat) (S1 : Sh.ok w (Sh.slice 1 (Sh.int .u8)) [.slice A1 len1 cap1]) :
    Calls Try.prog 6 #[.int .i64 a0, .slice A1 len1 cap1] w fun e w' => e = .returned (.bool true) ∧ Below w.heap.size w w' := by
  obtain ⟨b, off, l, h⟩ := byt_open S1
  by_cases hl : len1 ≤ 100
  · exact long_go w a0 A1 len1 cap1 b off l h hl
  · exact long_big w a0 A1 len1 cap1 (by omega)
end Go.Proofs.Ytcopdhgmbflcoaa
