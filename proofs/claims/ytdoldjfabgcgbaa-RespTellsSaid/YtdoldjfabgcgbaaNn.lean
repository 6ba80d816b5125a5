/- RespTells: the code's answers are the reference's. -/
import Derived.Test.YtdoldjfabgcgbaaNm
import Derived.Deep.DrawnRows
namespace Go.Proofs.Ytdoldjfabgcgbaa
open Go.RowKit
open Go.Lib hiding intOf
set_option linter.unusedVariables false
set_option linter.unusedSimpArgs false
set_option maxRecDepth 100000
def Kq (w0 W : World) : Prop := Below w0.heap.size w0 W
theorem Kq.refl (w : World) : Kq w w := Below.refl _ _
theorem Kq.alloc {w0 W : World} (h : Kq w0 W) (o : Obj) : Kq w0 (W.alloc o) := Below.alloc h (Below.size h) o
theorem Kq.drew {w0 W : World} (h : Kq w0 W) : Kq w0 W.drew := Below.drew h
theorem Kq.call {w0 W W' : World} (h : Kq w0 W) (hb : Below W.heap.size W W') : Kq w0 W' := Below.trans h (hb.mono (Below.size h))
theorem decR_len (kind : Int) (l : List UInt8) : (decR kind l).2.1.xs.length ≤ 100 := by
  rcases dec_cases kind l with ⟨r, h, _, _, hc, _, _⟩ | ⟨c, _, h⟩
  · rw [h]
    exact (ranged_le (checkR_ok hc).1).1
  · rw [h]
    exact Nat.zero_le _
theorem enc_conv {w' : World} {B : Nat} {v : Value} {ck : Int} {BS : List UInt8} (hn : ck ≠ 0 → v = .slice none 0 0) (ho : ck = 0 → Own 5 B w' v BS) (W : World) (h : Kq w' W) : (convert 26 9 v).run Try.prog W = .ok (.string ⟨(if ck = 0 then BS else []).toArray⟩) W := by
  by_cases hc : ck = 0
  · rw [if_pos hc]
    exact own_text ((ho hc).below h)
  · rw [if_neg hc, hn hc]
    exact byt_text (nil_byt W)
set_option maxHeartbeats 16000000 in
theorem tells_law {w : World} {A : Option Addr} {cap b off : Nat} {xs : List It} (h : Its w A xs.length cap b off xs) (hx : ∀ t ∈ xs, t.v < 9223372036854775808) (k e tok ver : Int) (card : ByteArray) (idx : Int) (more : Bool) (ht : tok < 9223372036854775808) (hv : ver < 9223372036854775808)
    (kind : Int) {B : Option Addr} {capb bb ob : Nat} {l : List UInt8} (hby : Byt w B l.length capb bb ob l) :
    Calls Try.prog 3 #[.agg #[.int .i64 k, .int .i64 e, .int .i64 tok, .int .i64 ver, .string card, .int .i64 idx, .bool more, .slice A xs.length cap], .int .i64 kind, .slice B l.length capb] w fun r w' => r = .returned (.bool true) ∧ Below w.heap.size w w' := by
  have HX0 := Lib.hid ((Bxs.start w).new 25 #[.int .i64 k, .int .i64 e, .int .i64 tok, .int .i64 ver, .string card, .int .i64 idx, .bool more, .slice A xs.length cap])
  have HI := Lib.hid (fun W (hb : Below w.heap.size w W) => h.below hb (fun hl => (h.addr hl).2))
  have HBY := Lib.hid hby
  have HLI := Lib.hid (fun W hb => light_any (HI.out W hb) k e tok ver card idx more)
  have HEN := Lib.hid (fun W hb => encode_any (HI.out W hb) k e tok ver card idx more ht hv hx)
  have HER := Lib.hid (fun W hb => rencode_any (HI.out W hb) k e tok ver card idx more ht hv hx)
  have HCH := Lib.hid (fun W hb => check_any (HI.out W hb) k e tok ver card idx more ht hv hx)
  have HCR := Lib.hid (fun W hb => rcheck_any (HI.out W hb) k e tok ver card idx more ht hv hx)
  obtain ⟨lb, hlb⟩ : ∃ x, lightB card xs = x := ⟨_, rfl⟩
  rw [hlb] at HLI
  obtain ⟨ck, hck⟩ : ∃ x, checkR k e tok ver card idx more xs = x := ⟨_, rfl⟩
  rw [hck] at HEN HER HCH HCR
  obtain ⟨BS, hBS⟩ : ∃ x, bytesR e tok ver card idx more xs = x := ⟨_, rfl⟩
  rw [hBS] at HEN HER
  clear h hx ht hv hby hlb hck hBS
  go_enter Try.func3, Try.ntmps3
  go_wp2_with fail
  refine (first_any _).mono ?_
  rintro _ w1 ⟨rfl, hb⟩
  have HX1 := Lib.hid (HX0.out.step hb)
  clear hb
  have a_0 := (HX1.out.get 0 rfl).cell 0
  have a_1 := (HX1.out.get 0 rfl).cell 1
  have a_2 := (HX1.out.get 0 rfl).cell 2
  have a_3 := (HX1.out.get 0 rfl).cell 3
  have a_4 := (HX1.out.get 0 rfl).cell 4
  have a_5 := (HX1.out.get 0 rfl).cell 5
  have a_6 := (HX1.out.get 0 rfl).cell 6
  have a_7 := (HX1.out.get 0 rfl).cell 7
  go_wp2_with fail
  refine (HLI.out _ HX1.out.bel).mono ?_
  rintro _ w2 ⟨rfl, hb⟩
  have HX2 := Lib.hid (HX1.out.step hb)
  clear hb
  by_cases hlight : lb = true ∧ l.length ≤ 1500
  · obtain ⟨rfl, hll⟩ := hlight
    have hlI : (l.length : Int) ≤ 1500 := by omega
    have HD1 := Lib.hid (fun (W : World) (hb : Below w.heap.size w W) => dec_any (HBY.out.on hb) (Nat.le_trans hll (by omega)) kind)
    have HD2 := Lib.hid (fun (W : World) (hb : Below w.heap.size w W) => decr_any (HBY.out.on hb) (Nat.le_trans hll (by omega)) kind)
    have hlen := decR_len kind l
    unfold DecPost at HD1 HD2
    obtain ⟨⟨k1, ⟨e1, t1, v1, c1, i1, m1, xs1⟩, g1⟩, hdr⟩ : ∃ z, decR kind l = z := ⟨_, rfl⟩
    rw [hdr] at HD1 HD2 hlen
    simp only [rpV] at HD1 HD2 hlen
    clear hdr
    have p_0 := (HX2.out.get 0 rfl).cell 0
    have p_1 := (HX2.out.get 0 rfl).cell 1
    have p_2 := (HX2.out.get 0 rfl).cell 2
    have p_3 := (HX2.out.get 0 rfl).cell 3
    have p_4 := (HX2.out.get 0 rfl).cell 4
    have p_5 := (HX2.out.get 0 rfl).cell 5
    have p_6 := (HX2.out.get 0 rfl).cell 6
    have p_7 := (HX2.out.get 0 rfl).cell 7
    go_wp2_with fail
    refine (HEN.out _ HX2.out.bel).mono ?_
    rintro _ w3 ⟨vx, rfl, hn1, ho1, hb⟩
    have HX3 := Lib.hid (HX2.out.step hb)
    have HCX := Lib.hid (enc_conv hn1 ho1)
    clear hn1 ho1 hb
    have q_0 := (HX3.out.get 0 rfl).cell 0
    have q_1 := (HX3.out.get 0 rfl).cell 1
    have q_2 := (HX3.out.get 0 rfl).cell 2
    have q_3 := (HX3.out.get 0 rfl).cell 3
    have q_4 := (HX3.out.get 0 rfl).cell 4
    have q_5 := (HX3.out.get 0 rfl).cell 5
    have q_6 := (HX3.out.get 0 rfl).cell 6
    have q_7 := (HX3.out.get 0 rfl).cell 7
    go_wp2_with fail
    refine (HER.out _ HX3.out.bel).mono ?_
    rintro _ w4 ⟨vy, rfl, hn1, ho1, hb⟩
    have HX4 := Lib.hid (HX3.out.step hb)
    have HCY := Lib.hid (enc_conv hn1 ho1)
    have HK4 := Lib.hid (show Kq w3 w4 from hb)
    clear hn1 ho1 hb
    obtain ⟨TX, hTX⟩ : ∃ T, (⟨(if ck = 0 then BS else []).toArray⟩ : ByteArray) = T := ⟨_, rfl⟩
    rw [hTX] at HCX HCY
    clear hTX
    go_wp2_with fail
    refine (HD1.out _ HX4.out.bel).mono ?_
    rintro _ w5 ⟨A3, cap3, b3, rfl, hI, hB, hb⟩
    have hbe : Below w5.heap.size w5 (w5.alloc (.cells #[.int .i64 k1, .int .i64 e1, .int .i64 t1, .int .i64 v1, .string c1, .int .i64 i1, .bool m1, .slice A3 xs1.length cap3] 25)) := (Below.refl _ _).alloc (Nat.le_refl _) _
    have HX5 := Lib.hid ((HX4.out.step hb).new 25 #[.int .i64 k1, .int .i64 e1, .int .i64 t1, .int .i64 v1, .string c1, .int .i64 i1, .bool m1, .slice A3 xs1.length cap3])
    have HI5 := Lib.hid (hI.below hbe (fun hl => (hI.addr hl).2))
    have HK5 := Lib.hid (show Kq w4 (w5.alloc (.cells #[.int .i64 k1, .int .i64 e1, .int .i64 t1, .int .i64 v1, .string c1, .int .i64 i1, .bool m1, .slice A3 xs1.length cap3] 25)) from Kq.alloc (Kq.call (Kq.refl w4) hb) _)
    clear hI hB hb hbe
    go_wp2_with fail
    refine (HD2.out _ HX5.out.bel).mono ?_
    rintro _ w6 ⟨A4, cap4, b4, rfl, hI, hB, hb⟩
    have hbe : Below w6.heap.size w6 (w6.alloc (.cells #[.int .i64 k1, .int .i64 e1, .int .i64 t1, .int .i64 v1, .string c1, .int .i64 i1, .bool m1, .slice A4 xs1.length cap4] 25)) := (Below.refl _ _).alloc (Nat.le_refl _) _
    have HX6 := Lib.hid ((HX5.out.step hb).new 25 #[.int .i64 k1, .int .i64 e1, .int .i64 t1, .int .i64 v1, .string c1, .int .i64 i1, .bool m1, .slice A4 xs1.length cap4])
    have HI6 := Lib.hid (hI.below hbe (fun hl => (hI.addr hl).2))
    have HI5' := Lib.hid ((HI5.out.below hb (fun hl => (HI5.out.addr hl).2)).below (hbe.mono (Nat.le_refl _)) (fun hl => Nat.lt_of_lt_of_le (HI5.out.addr hl).2 hb.size))
    have HK6 := Lib.hid (show Kq (w5.alloc (.cells #[.int .i64 k1, .int .i64 e1, .int .i64 t1, .int .i64 v1, .string c1, .int .i64 i1, .bool m1, .slice A3 xs1.length cap3] 25)) (w6.alloc (.cells #[.int .i64 k1, .int .i64 e1, .int .i64 t1, .int .i64 v1, .string c1, .int .i64 i1, .bool m1, .slice A4 xs1.length cap4] 25)) from Kq.alloc (Kq.call (Kq.refl _) hb) _)
    clear hI hB hb hbe
    obtain ⟨W6, hW6⟩ : ∃ W, w6.alloc (.cells #[.int .i64 k1, .int .i64 e1, .int .i64 t1, .int .i64 v1, .string c1, .int .i64 i1, .bool m1, .slice A4 xs1.length cap4] 25) = W := ⟨_, rfl⟩
    rw [hW6] at HX6 HI6 HI5' HK6
    have HS := Lib.hid (fun W (h : Kq W6 W) => show W.cell? ⟨w.heap.size, 0, none⟩ = some (.int .i64 k) ∧ W.cell? ⟨w.heap.size, 1, none⟩ = some (.int .i64 e) ∧ W.cell? ⟨w.heap.size, 2, none⟩ = some (.int .i64 tok) ∧ W.cell? ⟨w.heap.size, 3, none⟩ = some (.int .i64 ver) ∧ W.cell? ⟨w.heap.size, 4, none⟩ = some (.string card) ∧ W.cell? ⟨w.heap.size, 5, none⟩ = some (.int .i64 idx) ∧ W.cell? ⟨w.heap.size, 6, none⟩ = some (.bool more) ∧ W.cell? ⟨w.heap.size, 7, none⟩ = some (.slice A xs.length cap) ∧ W.cell? ⟨w5.heap.size, 0, none⟩ = some (.int .i64 k1) ∧ W.cell? ⟨w5.heap.size, 1, none⟩ = some (.int .i64 e1) ∧ W.cell? ⟨w5.heap.size, 2, none⟩ = some (.int .i64 t1) ∧ W.cell? ⟨w5.heap.size, 3, none⟩ = some (.int .i64 v1) ∧ W.cell? ⟨w5.heap.size, 4, none⟩ = some (.string c1) ∧ W.cell? ⟨w5.heap.size, 5, none⟩ = some (.int .i64 i1) ∧ W.cell? ⟨w5.heap.size, 6, none⟩ = some (.bool m1) ∧ W.cell? ⟨w5.heap.size, 7, none⟩ = some (.slice A3 xs1.length cap3) ∧ W.cell? ⟨w6.heap.size, 0, none⟩ = some (.int .i64 k1) ∧ W.cell? ⟨w6.heap.size, 1, none⟩ = some (.int .i64 e1) ∧ W.cell? ⟨w6.heap.size, 2, none⟩ = some (.int .i64 t1) ∧ W.cell? ⟨w6.heap.size, 3, none⟩ = some (.int .i64 v1) ∧ W.cell? ⟨w6.heap.size, 4, none⟩ = some (.string c1) ∧ W.cell? ⟨w6.heap.size, 5, none⟩ = some (.int .i64 i1) ∧ W.cell? ⟨w6.heap.size, 6, none⟩ = some (.bool m1) ∧ W.cell? ⟨w6.heap.size, 7, none⟩ = some (.slice A4 xs1.length cap4) ∧ (convert 26 9 vx).run Try.prog W = .ok (.string TX) W ∧ (convert 26 9 vy).run Try.prog W = .ok (.string TX) W from ⟨((HX6.out.step h).get 0 rfl).cell 0, ((HX6.out.step h).get 0 rfl).cell 1, ((HX6.out.step h).get 0 rfl).cell 2, ((HX6.out.step h).get 0 rfl).cell 3, ((HX6.out.step h).get 0 rfl).cell 4, ((HX6.out.step h).get 0 rfl).cell 5, ((HX6.out.step h).get 0 rfl).cell 6, ((HX6.out.step h).get 0 rfl).cell 7, ((HX6.out.step h).get 1 rfl).cell 0, ((HX6.out.step h).get 1 rfl).cell 1, ((HX6.out.step h).get 1 rfl).cell 2, ((HX6.out.step h).get 1 rfl).cell 3, ((HX6.out.step h).get 1 rfl).cell 4, ((HX6.out.step h).get 1 rfl).cell 5, ((HX6.out.step h).get 1 rfl).cell 6, ((HX6.out.step h).get 1 rfl).cell 7, ((HX6.out.step h).get 2 rfl).cell 0, ((HX6.out.step h).get 2 rfl).cell 1, ((HX6.out.step h).get 2 rfl).cell 2, ((HX6.out.step h).get 2 rfl).cell 3, ((HX6.out.step h).get 2 rfl).cell 4, ((HX6.out.step h).get 2 rfl).cell 5, ((HX6.out.step h).get 2 rfl).cell 6, ((HX6.out.step h).get 2 rfl).cell 7, HCX.out W (Kq.call (Kq.call (Kq.call HK4.out HK5.out) HK6.out) h), HCY.out W (Kq.call (Kq.call HK5.out HK6.out) h)⟩)
    have HC1 := Lib.hid (fun W (h : Kq W6 W) => HCH.out W (HX6.out.step h).bel)
    have HC2 := Lib.hid (fun W (h : Kq W6 W) => HCR.out W (HX6.out.step h).bel)
    have HM1 := Lib.hid (fun W (h : Kq W6 W) => sameR_any (HI5'.out.below h (fun hl => (HI5'.out.addr hl).2)) (HI6.out.below h (fun hl => (HI6.out.addr hl).2)) (by omega) k1 e1 t1 v1 c1 i1 m1)
    have HM2 := Lib.hid (fun (W : World) => sameR_any (its_none W) (its_none W) (by omega) kind e 0 0 ⟨#[]⟩ 0 false)
    have HBE := Lib.hid (fun W (h : Kq W6 W) => (HX6.out.step h).bel)
    clear HX0 HX1 HX2 HX3 HX4 HX5 HI5 HI5' HI6 HK4 HK5 HK6 HCX HCY HEN HER HCH HCR HLI HI HBY HD1 HD2
    go_wp2_with fail
    try rw [hW6]
    have SS := HS.out W6.drew (Kq.drew (Kq.refl W6))
    clear hW6
    go_region_held3 (fun W => W.cell? ⟨w.heap.size, 0, none⟩ = some (.int .i64 k) ∧ W.cell? ⟨w.heap.size, 1, none⟩ = some (.int .i64 e) ∧ W.cell? ⟨w.heap.size, 2, none⟩ = some (.int .i64 tok) ∧ W.cell? ⟨w.heap.size, 3, none⟩ = some (.int .i64 ver) ∧ W.cell? ⟨w.heap.size, 4, none⟩ = some (.string card) ∧ W.cell? ⟨w.heap.size, 5, none⟩ = some (.int .i64 idx) ∧ W.cell? ⟨w.heap.size, 6, none⟩ = some (.bool more) ∧ W.cell? ⟨w.heap.size, 7, none⟩ = some (.slice A xs.length cap) ∧ W.cell? ⟨w5.heap.size, 0, none⟩ = some (.int .i64 k1) ∧ W.cell? ⟨w5.heap.size, 1, none⟩ = some (.int .i64 e1) ∧ W.cell? ⟨w5.heap.size, 2, none⟩ = some (.int .i64 t1) ∧ W.cell? ⟨w5.heap.size, 3, none⟩ = some (.int .i64 v1) ∧ W.cell? ⟨w5.heap.size, 4, none⟩ = some (.string c1) ∧ W.cell? ⟨w5.heap.size, 5, none⟩ = some (.int .i64 i1) ∧ W.cell? ⟨w5.heap.size, 6, none⟩ = some (.bool m1) ∧ W.cell? ⟨w5.heap.size, 7, none⟩ = some (.slice A3 xs1.length cap3) ∧ W.cell? ⟨w6.heap.size, 0, none⟩ = some (.int .i64 k1) ∧ W.cell? ⟨w6.heap.size, 1, none⟩ = some (.int .i64 e1) ∧ W.cell? ⟨w6.heap.size, 2, none⟩ = some (.int .i64 t1) ∧ W.cell? ⟨w6.heap.size, 3, none⟩ = some (.int .i64 v1) ∧ W.cell? ⟨w6.heap.size, 4, none⟩ = some (.string c1) ∧ W.cell? ⟨w6.heap.size, 5, none⟩ = some (.int .i64 i1) ∧ W.cell? ⟨w6.heap.size, 6, none⟩ = some (.bool m1) ∧ W.cell? ⟨w6.heap.size, 7, none⟩ = some (.slice A4 xs1.length cap4) ∧ (convert 26 9 vx).run Try.prog W = .ok (.string TX) W ∧ (convert 26 9 vy).run Try.prog W = .ok (.string TX) W) (exact HS.out _ (by (repeat (first | with_reducible assumption | with_reducible exact Kq.refl _ | with_reducible refine Kq.alloc ?_ _ | with_reducible refine Kq.drew ?_)))) (first
      | (go_at_call 13
         (with_reducible refine (HC1.out _ ?_).mono ?_)
         focus ((repeat (first | with_reducible assumption | with_reducible exact Kq.refl _ | with_reducible refine Kq.alloc ?_ _ | with_reducible refine Kq.drew ?_)); done)
         rintro _ z1 ⟨rfl, hb⟩
         have hK1 : Kq W6 z1 := Kq.call (by (repeat (first | with_reducible assumption | with_reducible exact Kq.refl _ | with_reducible refine Kq.alloc ?_ _ | with_reducible refine Kq.drew ?_))) hb
         clear hb)
      | (go_at_call 14
         (with_reducible refine (HC2.out _ ?_).mono ?_)
         focus ((repeat (first | with_reducible assumption | with_reducible exact Kq.refl _ | with_reducible refine Kq.alloc ?_ _ | with_reducible refine Kq.drew ?_)); done)
         rintro _ z2 ⟨rfl, hb⟩
         have hK2 : Kq W6 z2 := Kq.call (by (repeat (first | with_reducible assumption | with_reducible exact Kq.refl _ | with_reducible refine Kq.alloc ?_ _ | with_reducible refine Kq.drew ?_))) hb
         clear hb)
      | (go_at_call 15
         (with_reducible refine (HM1.out _ ?_).mono ?_)
         focus ((repeat (first | with_reducible assumption | with_reducible exact Kq.refl _ | with_reducible refine Kq.alloc ?_ _ | with_reducible refine Kq.drew ?_)); done)
         rintro _ z3 ⟨rfl, hb⟩
         have hK3 : Kq W6 z3 := Kq.call (by (repeat (first | with_reducible assumption | with_reducible exact Kq.refl _ | with_reducible refine Kq.alloc ?_ _ | with_reducible refine Kq.drew ?_))) hb
         clear hb)
      | (go_at_call 16
         (with_reducible refine (bad_any kind e _).mono ?_)
         rintro _ z4 ⟨rfl, hb⟩
         have hK4 : Kq W6 z4 := Kq.call (by (repeat (first | with_reducible assumption | with_reducible exact Kq.refl _ | with_reducible refine Kq.alloc ?_ _ | with_reducible refine Kq.drew ?_))) hb
         clear hb)
      | (go_at_call 15
         (with_reducible refine (HM2.out _).mono ?_)
         rintro _ z5 ⟨rfl, hb⟩
         have hK5 : Kq W6 z5 := Kq.call (by (repeat (first | with_reducible assumption | with_reducible exact Kq.refl _ | with_reducible refine Kq.alloc ?_ _ | with_reducible refine Kq.drew ?_))) hb
         clear hb))
    all_goals (
      go_wp2
      go_ret
      refine ⟨rfl, HBE.out _ ?_⟩
      (repeat (first | with_reducible assumption | with_reducible exact Kq.refl _ | with_reducible refine Kq.alloc ?_ _ | with_reducible refine Kq.drew ?_)))
  · by_cases hlb : lb = true
    · subst hlb
      have hlI : (l.length : Int) > 1500 := by have : ¬ l.length ≤ 1500 := fun h => hlight ⟨rfl, h⟩; omega
      go_wp2_with fail
      refine (first_any _).mono ?_
      rintro _ w3 ⟨rfl, hb⟩
      have HX3 := Lib.hid (HX2.out.step hb)
      go_wp2
      go_ret
      exact ⟨rfl, HX3.out.bel⟩
    · obtain rfl : lb = false := by simpa using hlb
      go_wp2_with fail
      refine (first_any _).mono ?_
      rintro _ w3 ⟨rfl, hb⟩
      have HX3 := Lib.hid (HX2.out.step hb)
      go_wp2
      go_ret
      exact ⟨rfl, HX3.out.bel⟩
theorem respTells_walk (w : World) (a0 : Int) (w0 : (Lit.int .i64 a0).wf = true) (a1 : Int) (w1 : (Lit.int .i64 a1).wf = true) (a2 : Int) (w2 : (Lit.int .i64 a2).wf = true) (a3 : Int) (w3 : (Lit.int .i64 a3).wf = true) (a4 : ByteArray) (w4 : a4.size ≤ maxLen) (a5 : Int) (w5 : (Lit.int .i64 a5).wf = true) (a6 : Bool) (A7 : Option Addr) (len7 cap7 : Nat) (S7 : Sh.ok w (Sh.slice 4 shIt) [.slice A7 len7 cap7]) (a8 : Int) (w8 : (Lit.int .i64 a8).wf = true) (A9 : Option Addr) (len9 cap9 : Nat) (S9 : Sh.ok w (Sh.slice 1 (Sh.int .u8)) [.slice A9 len9 cap9]) :
    Calls Try.prog 3 #[.agg #[.int .i64 a0, .int .i64 a1, .int .i64 a2, .int .i64 a3, .string a4, .int .i64 a5, .bool a6, .slice A7 len7 cap7], .int .i64 a8, .slice A9 len9 cap9] w fun e w' => e = .returned (.bool true) ∧ Below w.heap.size w w' := by
  obtain ⟨b, off, xs, h, hx⟩ := its_open S7
  obtain ⟨bb, ob, l, hb⟩ := byt_open S9
  obtain rfl := h.hlen
  obtain rfl := hb.hlen
  exact tells_law h hx a0 a1 a2 a3 a4 a5 a6 (wf_lt w2) (wf_lt w3) a8 hb
end Go.Proofs.Ytdoldjfabgcgbaa
