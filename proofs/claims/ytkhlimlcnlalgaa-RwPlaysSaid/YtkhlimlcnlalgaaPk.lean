/- RwPlays: the lock and the reference's lock under any calls. -/
import Derived.Test.YtkhlimlcnlalgaaPj
import Derived.Test.YtkhlimlcnlalgaaKo
namespace Go.Proofs.Ytkhlimlcnlalgaa
open Go.RowKit Go.Maps
open Go.Lib
open Go.ChangeShapes Go.ChangeAt
set_option linter.unusedVariables false
set_option linter.unusedSimpArgs false
set_option maxRecDepth 100000
theorem preQ_le (Q H : List Pq) (x : Int) : (preQ Q H x).length ≤ Q.length := by
  unfold preQ
  split
  · exact Nat.le_refl _
  · split
    · unfold leaveQ
      exact (List.eraseIdx_sublist _ _).length_le
    · exact Nat.le_refl _
theorem lvC_le (Q H : List Pq) (x : Int) : (lvC Q H x).length ≤ Q.length := by
  unfold lvC
  split
  · exact Nat.zero_le _
  · exact Nat.le_trans (mvC_le _ _) (preQ_le _ _ _)
set_option maxHeartbeats 16000000 in
theorem plays_in (w : World) (A : Option Addr) (len cap blk off : Nat) (xs : Nat → Int × Int) (hl : len ≤ cap) (hm : cap ≤ maxLen) (hlen : len ≤ 100) (hA : Acts w A len blk off xs) (other : Int) (ho : wf other) :
    Calls Try.prog 3 #[.slice A len cap, .int .i64 other] w fun e w' => e = .returned (.bool true) ∧ Below w.heap.size w w' := by
  have HA := Lib.hid hA
  have HO := Lib.hid ho
  have hl2 : ¬ (len : Int) > 100 := by omega
  unfold maxLen at hm
  clear hA ho
  go_enter Try.func3, Try.ntmps3
  go_wp2_with fail
  refine (first_any _).mono ?_
  rintro _ w1 ⟨rfl, hb⟩
  have HB1 := Lib.hid hb
  have HA1 := Lib.hid (HA.out.keep hb)
  clear hb
  go_wp2_with fail
  refine (lw_new _).mono ?_
  rintro _ w2 ⟨R, b, rfl, h1⟩
  have H2 := Lib.hid (p_new h1)
  obtain ⟨g, hg⟩ : ∃ g, w2.heap.size = g := ⟨_, rfl⟩
  rw [hg] at H2
  clear h1
  go_wp2_with fail
  clear hg
  obtain ⟨V0, D0, hp0⟩ := H2.out
  have HP0 := Lib.hid hp0
  clear hp0 H2
  go_loopw [7] (fun i wr => ∃ (k : Nat) (V : Value) (D : VD) (Vi Vq : Value) (Q H : List Pq), k ≤ len ∧ i = .int .i64 (k : Int) ∧ P2 w1 wr R b k g V D Vi Vq Q H Q H) (fun i _ => len - (intOf i).toNat)
  case atStart => exact ⟨0, _, _, _, _, [], [], Nat.zero_le _, rfl, HP0.out⟩
  case round =>
    obtain ⟨k, V, D, Vi, Vq, Q, H, hk, rfl, hc⟩ := hrel
    have HC := Lib.hid hc
    by_cases hlt : k < len
    · obtain ⟨c0, c1, f1⟩ := (HA1.out.keep hc.bel).2 k hlt
      obtain rfl := (HA1.out.1 (by omega)).1
      have HX := Lib.hid (fun w' (h : Below w1.heap.size w1 w') => (HA1.out.keep h).2 k hlt)
      obtain ⟨op, hop⟩ : ∃ op, (xs k).1 = op := ⟨_, rfl⟩
      obtain ⟨x, hx⟩ : ∃ x, (xs k).2 = x := ⟨_, rfl⟩
      rw [hop] at c0
      rw [hx] at c1 f1
      rw [hop, hx] at HX
      have F1 := Lib.hid f1
      clear hop hx hc f1
      have hkI : (k : Int) < (len : Int) := by omega
      by_cases o0 : op = 0
      · subst o0
        go_wp2_with fail
        have c0d : wr.drew.cell? ⟨blk, off + k * 2, none⟩ = some (.int .i64 0) := c0
        have c1d : wr.drew.cell? ⟨blk, off + k * 2 + 1, none⟩ = some (.int .i64 x) := c1
        obtain ⟨r, hr⟩ : ∃ r, askR Q H x false = r := ⟨_, rfl⟩
        obtain ⟨Q2, hQ2⟩ : ∃ r, askQ Q H x false = r := ⟨_, rfl⟩
        obtain ⟨H2, hH2⟩ : ∃ r, askH Q H x false = r := ⟨_, rfl⟩
        have HRR := Lib.hid hr
        have HQQ := Lib.hid hQ2
        have HHH := Lib.hid hH2
        have HIV := Lib.hid HC.out.lb.iv
        have HCD := Lib.hid (p_ask (HC.out.kept ((Below.refl _ wr).drew)) (by omega) x F1.out false r HRR.out Q2 H2 HQQ.out HHH.out)
        clear hr hQ2 hH2
        go_region_held3 (fun w' => w'.cell? ⟨blk, off + k * 2, none⟩ = some (.int .i64 0) ∧ w'.cell? ⟨blk, off + k * 2 + 1, none⟩ = some (.int .i64 x)) (first | exact ⟨c0d, c1d⟩ | exact e2 | exact e1) (first
          | (go_at_call 9
             (with_reducible refine (HCD.out).mono ?_)
             rintro _ w3 ⟨rfl, V3, D3, h1⟩
             have e1 := HX.out _ h1.bel
             have e1 := (⟨e1.1, e1.2.1⟩ : _ ∧ _)
             have HC3 := Lib.hid (p_rask h1 HIV.out (by omega) x false r HRR.out Q2 H2 HQQ.out HHH.out)
             clear h1)
          | (go_at_call 10
             (with_reducible refine (HC3.out).mono ?_)
             rintro _ w4 ⟨rfl, Vi4, Vq4, h1⟩
             have e2 := HX.out _ h1.bel
             have e2 := (⟨e2.1, e2.2.1⟩ : _ ∧ _)
             have HP := Lib.hid h1
             clear h1))
        all_goals (
          have HST := Lib.hid (⟨_, rfl⟩ : ∃ s, stL Q2 H2 x = s)
          have HSO := Lib.hid (⟨_, rfl⟩ : ∃ s, stL Q2 H2 other = s)
          obtain ⟨s1, hs1⟩ := HST.out
          obtain ⟨s2, hs2⟩ := HSO.out
          have HS1 := Lib.hid hs1
          have HS2 := Lib.hid hs2
          obtain ⟨kh, hkh⟩ : ∃ l, srtK H2 = l := ⟨_, rfl⟩
          obtain ⟨kq, hkq⟩ : ∃ l, keysOf Q2 = l := ⟨_, rfl⟩
          have HKH := Lib.hid hkh
          have HKQ := Lib.hid hkq
          have hlk := HP.out.lb.len
          have hkhl : kh.length ≤ 1000 := by rw [← hkh, srtK_len]; omega
          have hkql : kq.length ≤ 1000 := by rw [← hkq, keysOf_len]; omega
          clear hs1 hs2 hkh hkq HST HSO
          go_wp2_with fail
          refine (p_state HP.out (by omega) x F1.out s1 HS1.out).mono ?_
          rintro _ w5 ⟨rfl, hp⟩
          have HP := Lib.hid hp
          clear hp
          go_wp2_with fail
          refine (p_rstate HP.out (by omega) x s1 HS1.out).mono ?_
          rintro _ w6 ⟨rfl, hp⟩
          have HP := Lib.hid hp
          clear hp
          go_wp2_with fail
          refine (p_state HP.out (by omega) other HO.out s2 HS2.out).mono ?_
          rintro _ w7 ⟨rfl, hp⟩
          have HP := Lib.hid hp
          clear hp
          go_wp2_with fail
          refine (p_rstate HP.out (by omega) other s2 HS2.out).mono ?_
          rintro _ w8 ⟨rfl, hp⟩
          have HP := Lib.hid hp
          clear hp
          go_wp2_with fail
          refine (p_hold HP.out (by omega) kh HKH.out).mono ?_
          rintro _ w9 ⟨U1, rfl, hu, hp⟩
          have HP := Lib.hid hp
          have HU1 := Lib.hid hu
          clear hp hu
          go_wp2_with fail
          refine (p_rhold HP.out (by omega) HU1.out kh HKH.out).mono ?_
          rintro _ w10 ⟨U2, rfl, hv, hu, hp⟩
          have HP := Lib.hid hp
          have HU1 := Lib.hid hu
          have HU2 := Lib.hid hv
          clear hp hu hv
          go_wp2_with fail
          refine (p_ints HP.out HU1.out HU2.out (by omega)).mono ?_
          rintro _ w11 ⟨rfl, hp⟩
          have HP := Lib.hid hp
          clear hp
          go_wp2_with fail
          refine (p_queue HP.out (by omega) kq HKQ.out).mono ?_
          rintro _ w12 ⟨U3, rfl, hu, hp⟩
          have HP := Lib.hid hp
          have HU3 := Lib.hid hu
          clear hp hu
          go_wp2_with fail
          refine (p_rqueue HP.out (by omega) HU3.out kq HKQ.out).mono ?_
          rintro _ w13 ⟨U4, rfl, hv, hu, hp⟩
          have HP := Lib.hid hp
          have HU3 := Lib.hid hu
          have HU4 := Lib.hid hv
          clear hp hu hv
          go_wp2_with fail
          refine (p_ints HP.out HU3.out HU4.out (by omega)).mono ?_
          rintro _ w14 ⟨rfl, hp⟩
          have HP := Lib.hid hp
          clear hp
          go_wp2_with fail
          exact ⟨⟨k + 1, _, _, _, _, Q2, H2, by omega, by go_num, HP.out⟩, by simp [intOf]; omega⟩)
      · have o0' : (op == 0) = false := by simpa using o0
        by_cases o1 : op = 1
        · subst o1
          go_wp2_with fail
          have c0d : wr.drew.cell? ⟨blk, off + k * 2, none⟩ = some (.int .i64 1) := c0
          have c1d : wr.drew.cell? ⟨blk, off + k * 2 + 1, none⟩ = some (.int .i64 x) := c1
          obtain ⟨r, hr⟩ : ∃ r, askR Q H x true = r := ⟨_, rfl⟩
          obtain ⟨Q2, hQ2⟩ : ∃ r, askQ Q H x true = r := ⟨_, rfl⟩
          obtain ⟨H2, hH2⟩ : ∃ r, askH Q H x true = r := ⟨_, rfl⟩
          have HRR := Lib.hid hr
          have HQQ := Lib.hid hQ2
          have HHH := Lib.hid hH2
          have HIV := Lib.hid HC.out.lb.iv
          have HCD := Lib.hid (p_ask (HC.out.kept ((Below.refl _ wr).drew)) (by omega) x F1.out true r HRR.out Q2 H2 HQQ.out HHH.out)
          clear hr hQ2 hH2
          go_region_held3 (fun w' => w'.cell? ⟨blk, off + k * 2, none⟩ = some (.int .i64 1) ∧ w'.cell? ⟨blk, off + k * 2 + 1, none⟩ = some (.int .i64 x)) (first | exact ⟨c0d, c1d⟩ | exact e2 | exact e1) (first
            | (go_at_call 9
               (with_reducible refine (HCD.out).mono ?_)
               rintro _ w3 ⟨rfl, V3, D3, h1⟩
               have e1 := HX.out _ h1.bel
               have e1 := (⟨e1.1, e1.2.1⟩ : _ ∧ _)
               have HC3 := Lib.hid (p_rask h1 HIV.out (by omega) x true r HRR.out Q2 H2 HQQ.out HHH.out)
               clear h1)
            | (go_at_call 10
               (with_reducible refine (HC3.out).mono ?_)
               rintro _ w4 ⟨rfl, Vi4, Vq4, h1⟩
               have e2 := HX.out _ h1.bel
               have e2 := (⟨e2.1, e2.2.1⟩ : _ ∧ _)
               have HP := Lib.hid h1
               clear h1))
          all_goals (
            have HST := Lib.hid (⟨_, rfl⟩ : ∃ s, stL Q2 H2 x = s)
            have HSO := Lib.hid (⟨_, rfl⟩ : ∃ s, stL Q2 H2 other = s)
            obtain ⟨s1, hs1⟩ := HST.out
            obtain ⟨s2, hs2⟩ := HSO.out
            have HS1 := Lib.hid hs1
            have HS2 := Lib.hid hs2
            obtain ⟨kh, hkh⟩ : ∃ l, srtK H2 = l := ⟨_, rfl⟩
            obtain ⟨kq, hkq⟩ : ∃ l, keysOf Q2 = l := ⟨_, rfl⟩
            have HKH := Lib.hid hkh
            have HKQ := Lib.hid hkq
            have hlk := HP.out.lb.len
            have hkhl : kh.length ≤ 1000 := by rw [← hkh, srtK_len]; omega
            have hkql : kq.length ≤ 1000 := by rw [← hkq, keysOf_len]; omega
            clear hs1 hs2 hkh hkq HST HSO
            go_wp2_with fail
            refine (p_state HP.out (by omega) x F1.out s1 HS1.out).mono ?_
            rintro _ w5 ⟨rfl, hp⟩
            have HP := Lib.hid hp
            clear hp
            go_wp2_with fail
            refine (p_rstate HP.out (by omega) x s1 HS1.out).mono ?_
            rintro _ w6 ⟨rfl, hp⟩
            have HP := Lib.hid hp
            clear hp
            go_wp2_with fail
            refine (p_state HP.out (by omega) other HO.out s2 HS2.out).mono ?_
            rintro _ w7 ⟨rfl, hp⟩
            have HP := Lib.hid hp
            clear hp
            go_wp2_with fail
            refine (p_rstate HP.out (by omega) other s2 HS2.out).mono ?_
            rintro _ w8 ⟨rfl, hp⟩
            have HP := Lib.hid hp
            clear hp
            go_wp2_with fail
            refine (p_hold HP.out (by omega) kh HKH.out).mono ?_
            rintro _ w9 ⟨U1, rfl, hu, hp⟩
            have HP := Lib.hid hp
            have HU1 := Lib.hid hu
            clear hp hu
            go_wp2_with fail
            refine (p_rhold HP.out (by omega) HU1.out kh HKH.out).mono ?_
            rintro _ w10 ⟨U2, rfl, hv, hu, hp⟩
            have HP := Lib.hid hp
            have HU1 := Lib.hid hu
            have HU2 := Lib.hid hv
            clear hp hu hv
            go_wp2_with fail
            refine (p_ints HP.out HU1.out HU2.out (by omega)).mono ?_
            rintro _ w11 ⟨rfl, hp⟩
            have HP := Lib.hid hp
            clear hp
            go_wp2_with fail
            refine (p_queue HP.out (by omega) kq HKQ.out).mono ?_
            rintro _ w12 ⟨U3, rfl, hu, hp⟩
            have HP := Lib.hid hp
            have HU3 := Lib.hid hu
            clear hp hu
            go_wp2_with fail
            refine (p_rqueue HP.out (by omega) HU3.out kq HKQ.out).mono ?_
            rintro _ w13 ⟨U4, rfl, hv, hu, hp⟩
            have HP := Lib.hid hp
            have HU3 := Lib.hid hu
            have HU4 := Lib.hid hv
            clear hp hu hv
            go_wp2_with fail
            refine (p_ints HP.out HU3.out HU4.out (by omega)).mono ?_
            rintro _ w14 ⟨rfl, hp⟩
            have HP := Lib.hid hp
            clear hp
            go_wp2_with fail
            exact ⟨⟨k + 1, _, _, _, _, Q2, H2, by omega, by go_num, HP.out⟩, by simp [intOf]; omega⟩)
        · have o1' : (op == 1) = false := by simpa using o1
          obtain ⟨r, hr⟩ : ∃ r, lvC Q H x = r := ⟨_, rfl⟩
          obtain ⟨Q2, hQ2⟩ : ∃ r, lvQ Q H x = r := ⟨_, rfl⟩
          obtain ⟨H2, hH2⟩ : ∃ r, lvH Q H x = r := ⟨_, rfl⟩
          have HRR := Lib.hid hr
          have HQQ := Lib.hid hQ2
          have HHH := Lib.hid hH2
          have HIV := Lib.hid HC.out.lb.iv
          have hrl : r.length ≤ 1000 := by rw [← hr]; have h1 := lvC_le Q H x; have h2 := HC.out.lb.len; omega
          clear hr hQ2 hH2
          go_wp2_with fail
          refine (p_leave HC.out (by omega) x F1.out r HRR.out Q2 H2 HQQ.out HHH.out).mono ?_
          rintro _ w3 ⟨U5, V3, D3, rfl, h1, h2⟩
          have HC3 := Lib.hid h1
          have HU5 := Lib.hid h2
          clear h1 h2
          go_wp2_with fail
          refine (p_rleave HC.out.rk HC3.out HIV.out (by omega) HU5.out x r HRR.out Q2 H2 HQQ.out HHH.out).mono ?_
          rintro _ w4 ⟨U6, Vi4, Vq4, rfl, h1, h2, h3⟩
          have HP := Lib.hid (h1.mono (Nat.le_succ k))
          have HU6 := Lib.hid h2
          have HU5 := Lib.hid h3
          clear h1 h2 h3
          go_wp2_with fail
          refine (p_ints HP.out HU5.out HU6.out (by omega)).mono ?_
          rintro _ wz ⟨rfl, hp⟩
          have HP := Lib.hid hp
          clear hp
          go_wp2_with fail
          have HST := Lib.hid (⟨_, rfl⟩ : ∃ s, stL Q2 H2 x = s)
          have HSO := Lib.hid (⟨_, rfl⟩ : ∃ s, stL Q2 H2 other = s)
          obtain ⟨s1, hs1⟩ := HST.out
          obtain ⟨s2, hs2⟩ := HSO.out
          have HS1 := Lib.hid hs1
          have HS2 := Lib.hid hs2
          obtain ⟨kh, hkh⟩ : ∃ l, srtK H2 = l := ⟨_, rfl⟩
          obtain ⟨kq, hkq⟩ : ∃ l, keysOf Q2 = l := ⟨_, rfl⟩
          have HKH := Lib.hid hkh
          have HKQ := Lib.hid hkq
          have hlk := HP.out.lb.len
          have hkhl : kh.length ≤ 1000 := by rw [← hkh, srtK_len]; omega
          have hkql : kq.length ≤ 1000 := by rw [← hkq, keysOf_len]; omega
          clear hs1 hs2 hkh hkq HST HSO
          go_wp2_with fail
          refine (p_state HP.out (by omega) x F1.out s1 HS1.out).mono ?_
          rintro _ w5 ⟨rfl, hp⟩
          have HP := Lib.hid hp
          clear hp
          go_wp2_with fail
          refine (p_rstate HP.out (by omega) x s1 HS1.out).mono ?_
          rintro _ w6 ⟨rfl, hp⟩
          have HP := Lib.hid hp
          clear hp
          go_wp2_with fail
          refine (p_state HP.out (by omega) other HO.out s2 HS2.out).mono ?_
          rintro _ w7 ⟨rfl, hp⟩
          have HP := Lib.hid hp
          clear hp
          go_wp2_with fail
          refine (p_rstate HP.out (by omega) other s2 HS2.out).mono ?_
          rintro _ w8 ⟨rfl, hp⟩
          have HP := Lib.hid hp
          clear hp
          go_wp2_with fail
          refine (p_hold HP.out (by omega) kh HKH.out).mono ?_
          rintro _ w9 ⟨U1, rfl, hu, hp⟩
          have HP := Lib.hid hp
          have HU1 := Lib.hid hu
          clear hp hu
          go_wp2_with fail
          refine (p_rhold HP.out (by omega) HU1.out kh HKH.out).mono ?_
          rintro _ w10 ⟨U2, rfl, hv, hu, hp⟩
          have HP := Lib.hid hp
          have HU1 := Lib.hid hu
          have HU2 := Lib.hid hv
          clear hp hu hv
          go_wp2_with fail
          refine (p_ints HP.out HU1.out HU2.out (by omega)).mono ?_
          rintro _ w11 ⟨rfl, hp⟩
          have HP := Lib.hid hp
          clear hp
          go_wp2_with fail
          refine (p_queue HP.out (by omega) kq HKQ.out).mono ?_
          rintro _ w12 ⟨U3, rfl, hu, hp⟩
          have HP := Lib.hid hp
          have HU3 := Lib.hid hu
          clear hp hu
          go_wp2_with fail
          refine (p_rqueue HP.out (by omega) HU3.out kq HKQ.out).mono ?_
          rintro _ w13 ⟨U4, rfl, hv, hu, hp⟩
          have HP := Lib.hid hp
          have HU3 := Lib.hid hu
          have HU4 := Lib.hid hv
          clear hp hu hv
          go_wp2_with fail
          refine (p_ints HP.out HU3.out HU4.out (by omega)).mono ?_
          rintro _ w14 ⟨rfl, hp⟩
          have HP := Lib.hid hp
          clear hp
          go_wp2_with fail
          exact ⟨⟨k + 1, _, _, _, _, Q2, H2, by omega, by go_num, HP.out⟩, by simp [intOf]; omega⟩
    · obtain rfl : k = len := by omega
      clear hc hlt
      go_wp2
      go_ret
      exact ⟨rfl, HB1.out.trans (HC.out.bel.mono HB1.out.size)⟩
set_option maxHeartbeats 4000000 in
theorem plays_big (w : World) (A : Option Addr) (len cap : Nat) (h : 100 < len) (other : Int) : Calls Try.prog 3 #[.slice A len cap, .int .i64 other] w fun e w' => e = .returned (.bool true) ∧ Below w.heap.size w w' := by
  have hl2 : (len : Int) > 100 := by omega
  go_enter Try.func3, Try.ntmps3
  go_wp2_with fail
  refine (first_any _).mono ?_
  rintro _ w1 ⟨rfl, hb⟩
  have HB1 := Lib.hid hb
  clear hb
  go_wp2_with fail
  refine (first_any _).mono ?_
  rintro _ w2 ⟨rfl, hb⟩
  have HB2 := Lib.hid hb
  clear hb
  go_wp2
  go_ret
  exact ⟨rfl, HB1.out.trans (HB2.out.mono HB1.out.size)⟩
theorem rwPlays_walk (w : World) (A0 : Option Addr) (len0 cap0 : Nat) (S0 : Sh.ok w (Sh.slice 2 (Sh.agg 2 [(0, 1, (Sh.int .i64)), (1, 1, (Sh.int .i64))])) [.slice A0 len0 cap0]) (a1 : Int) (w1 : (Lit.int .i64 a1).wf = true) :
    Calls Try.prog 3 #[.slice A0 len0 cap0, .int .i64 a1] w fun e w' => e = .returned (.bool true) ∧ Below w.heap.size w w' := by
  obtain ⟨b, off, xs, hl, hm, hA⟩ := acts_of S0
  by_cases h : 100 < len0
  · exact plays_big w A0 len0 cap0 h a1
  · exact plays_in w A0 len0 cap0 b off xs hl hm (by omega) hA a1 w1
end Go.Proofs.Ytkhlimlcnlalgaa
