/- RwEnds: its walk. -/
import Derived.Test.YtkhlimlcnlalgaaKm
namespace Go.Proofs.Ytkhlimlcnlalgaa
open Go.RowKit Go.Maps
open Go.ChangeShapes Go.ChangeAt
set_option linter.unusedVariables false
set_option linter.unusedSimpArgs false
set_option maxRecDepth 100000
theorem lw_leaveX {w0 w : World} {R b n : Nat} {Q H : List Pq} (h : Lw w0 w R b n Q H) (hn : n ≤ 1000) (x : Int) (hx : wf x) : Calls Try.prog 12 #[.pointer (some ⟨R, 0, none⟩), .int .i64 x] w fun e w' => ∃ A c g, e = .returned (.slice A (lvC Q H x).length c) ∧ Lw w0 w' R b n (lvQ Q H x) (lvH Q H x) ∧ Nl w' A c g (lvC Q H x) := by
  refine (lw_leave h hn x hx _ rfl).mono ?_
  rintro _ w' ⟨U, rfl, h1, h2⟩
  obtain ⟨A, c, g, rfl, h3⟩ := nl_row h2
  exact ⟨A, c, g, rfl, h1, h3⟩
theorem lw_holdX {w0 w : World} {R b n : Nat} {Q H : List Pq} (h : Lw w0 w R b n Q H) (hn : n ≤ 1000) : Calls Try.prog 16 #[.pointer (some ⟨R, 0, none⟩)] w fun e w' => ∃ A c g, e = .returned (.slice A (srtK H).length c) ∧ Nl w' A c g (srtK H) ∧ Below w.heap.size w w' := by
  refine (lw_hold h hn _ rfl).mono ?_
  rintro _ w' ⟨U, rfl, h1, h2⟩
  obtain ⟨A, c, g, rfl, h3⟩ := nl_row h1
  exact ⟨A, c, g, rfl, h3, h2⟩
theorem lw_queueX {w0 w : World} {R b n : Nat} {Q H : List Pq} (h : Lw w0 w R b n Q H) (hn : n ≤ 1000) : Calls Try.prog 18 #[.pointer (some ⟨R, 0, none⟩)] w fun e w' => ∃ A c g, e = .returned (.slice A (keysOf Q).length c) ∧ Nl w' A c g (keysOf Q) ∧ Below w.heap.size w w' := by
  refine (lw_queue h hn _ rfl).mono ?_
  rintro _ w' ⟨U, rfl, h1, h2⟩
  obtain ⟨A, c, g, rfl, h3⟩ := nl_row h1
  exact ⟨A, c, g, rfl, h3, h2⟩
theorem keysOf_len (H : List Pq) : (keysOf H).length = H.length := by unfold keysOf; rw [List.length_map]
set_option maxHeartbeats 8000000 in
theorem ends_in (w : World) (A : Option Addr) (len cap blk off : Nat) (xs : Nat → Int × Int) (hl : len ≤ cap) (hm : cap ≤ maxLen) (hlen : len ≤ 100) (hA : Acts w A len blk off xs) :
    Calls Try.prog 6 #[.slice A len cap] w fun e w' => e = .returned (.bool true) ∧ Below w.heap.size w w' := by
  have HA := Lib.hid hA
  have hl2 : ¬ (len : Int) > 100 := by omega
  unfold maxLen at hm
  clear hA
  go_enter Try.func6, Try.ntmps6
  go_wp2_with fail
  refine (first_any _).mono ?_
  rintro _ w1 ⟨rfl, hb⟩
  have HB1 := Lib.hid hb
  have HA1 := Lib.hid (HA.out.keep hb)
  clear hb
  go_wp2_with fail
  refine (lw_new _).mono ?_
  rintro _ w2 ⟨R, b, rfl, h1⟩
  have H2 := Lib.hid h1
  clear h1
  go_wp2_with fail
  go_loopw [4] (fun i wr => ∃ (k : Nat) (Q H : List Pq), k ≤ len ∧ i = .int .i64 (k : Int) ∧ Lw w1 wr R b k Q H ∧ Em Q H) (fun i _ => len - (intOf i).toNat)
  case atStart => exact ⟨0, [], [], Nat.zero_le _, rfl, H2.out, fun _ => rfl⟩
  case round =>
    obtain ⟨k, Q, H, hk, rfl, hc, hem⟩ := hrel
    have HC := Lib.hid hc
    have HE := Lib.hid hem
    by_cases hlt : k < len
    · obtain ⟨c0, c1, f1⟩ := (HA1.out.keep hc.bel).2 k hlt
      obtain rfl := (HA1.out.1 (by omega)).1
      have HX := Lib.hid (fun w' (h : Below w1.heap.size w1 w') => (HA1.out.keep h).2 k hlt)
      obtain ⟨op, hop⟩ : ∃ op, (xs k).1 = op := ⟨_, rfl⟩
      obtain ⟨x, hx⟩ : ∃ x, (xs k).2 = x := ⟨_, rfl⟩
      rw [hop] at c0
      rw [hx] at c1 f1
      rw [hop, hx] at HX
      have F1 := Lib.hid f1
      clear hop hx hc hem f1
      have hkI : (k : Int) < (len : Int) := by omega
      by_cases o0 : op = 0
      · subst o0
        go_wp2_with fail
        have c0d : wr.drew.cell? ⟨blk, off + k * 2, none⟩ = some (.int .i64 0) := c0
        have c1d : wr.drew.cell? ⟨blk, off + k * 2 + 1, none⟩ = some (.int .i64 x) := c1
        have HCD := Lib.hid (lw_ask (show Lw w1 wr.drew R b k Q H from HC.out.kept ((Below.refl _ _).drew)) (by omega) x F1.out false _ rfl)
        go_region_held3 (fun w' => w'.cell? ⟨blk, off + k * 2, none⟩ = some (.int .i64 0) ∧ w'.cell? ⟨blk, off + k * 2 + 1, none⟩ = some (.int .i64 x)) (first | exact ⟨c0d, c1d⟩ | exact e1) (first
          | (go_at_call 9
             (with_reducible refine (HCD.out).mono ?_)
             rintro _ w3 ⟨rfl, h1⟩
             have e1 := HX.out _ h1.bel
             have e1 := (⟨e1.1, e1.2.1⟩ : _ ∧ _)
             have HC3 := Lib.hid h1
             clear h1))
        all_goals (
          go_wp2_with fail
          exact ⟨⟨k + 1, _, _, by omega, by go_num, HC3.out, em_ask HE.out x false⟩, by simp [intOf]; omega⟩)
      · have o0' : (op == 0) = false := by simpa using o0
        by_cases o1 : op = 1
        · subst o1
          go_wp2_with fail
          have c0d : wr.drew.cell? ⟨blk, off + k * 2, none⟩ = some (.int .i64 1) := c0
          have c1d : wr.drew.cell? ⟨blk, off + k * 2 + 1, none⟩ = some (.int .i64 x) := c1
          have HCD := Lib.hid (lw_ask (show Lw w1 wr.drew R b k Q H from HC.out.kept ((Below.refl _ _).drew)) (by omega) x F1.out true _ rfl)
          go_region_held3 (fun w' => w'.cell? ⟨blk, off + k * 2, none⟩ = some (.int .i64 1) ∧ w'.cell? ⟨blk, off + k * 2 + 1, none⟩ = some (.int .i64 x)) (first | exact ⟨c0d, c1d⟩ | exact e1) (first
            | (go_at_call 9
               (with_reducible refine (HCD.out).mono ?_)
               rintro _ w3 ⟨rfl, h1⟩
               have e1 := HX.out _ h1.bel
               have e1 := (⟨e1.1, e1.2.1⟩ : _ ∧ _)
               have HC3 := Lib.hid h1
               clear h1))
          all_goals (
            go_wp2_with fail
            exact ⟨⟨k + 1, _, _, by omega, by go_num, HC3.out, em_ask HE.out x true⟩, by simp [intOf]; omega⟩)
        · have o1' : (op == 1) = false := by simpa using o1
          have HWK := Lib.hid (lw_leaveX HC.out (by omega) x F1.out)
          go_wp2_with (first
            | (go_at_call 12
               (with_reducible refine (HWK.out).mono ?_)
               rintro _ w3 ⟨A3, c3, g3, rfl, h1, h2⟩
               have HC3 := Lib.hid h1
               clear h1 h2)
            | fail)
          exact ⟨⟨k + 1, _, _, by omega, by go_num, lw_mono HC3.out (by omega), em_lv HE.out x⟩, by simp [intOf]; omega⟩
    · obtain rfl : k = len := by omega
      clear hc hem hlt
      go_wp2_with fail
      refine (lw_queueX HC.out (by omega)).mono ?_
      rintro _ w3 ⟨A3, c3, g3, rfl, h1, h2⟩
      have H3 := Lib.hid (HC.out.kept h2)
      clear h1 h2
      have hqn : H.length + Q.length ≤ 100 := by have := HC.out.lenb; omega
      have HKL := Lib.hid (keysOf_len Q)
      obtain ⟨ql, hql⟩ : ∃ ql, (keysOf Q).length = ql := ⟨_, rfl⟩
      have HQL := Lib.hid hql
      have hqlb : ql ≤ 100 := by rw [← hql, keysOf_len]; omega
      rw [hql]
      clear hql
      go_wp2_with fail
      go_loopw [6, 7] (fun nn i wr => ∃ (j m : Nat) (Q' H' : List Pq), i = .int .i64 (j : Int) ∧ nn = .int .i64 (m : Int) ∧ m + Q'.length = ql ∧ j + H'.length + Q'.length = H.length + Q.length ∧ Lw w1 wr R b k Q' H' ∧ Em Q' H') (fun _ i _ => 300 - (intOf i).toNat)
      case atStart => exact ⟨0, 0, Q, H, rfl, rfl, by rw [← HQL.out, HKL.out]; omega, by omega, H3.out, HE.out⟩
      case round =>
        obtain ⟨j, m, Q', H', rfl, rfl, hm1, hm2, hc, hem⟩ := hrel
        have HC3 := Lib.hid hc
        have HE3 := Lib.hid hem
        have hj200 : (j : Int) < 200 := by omega
        clear hc hem
        have hsl := srtK_len H'
        go_wp2_with fail
        refine (lw_holdX HC3.out (by omega)).mono ?_
        rintro _ w4 ⟨A4, c4, g4, rfl, h1, h2⟩
        have H4 := Lib.hid (HC3.out.kept h2)
        clear h1 h2
        by_cases h0 : H' = []
        · have hq0 := HE3.out h0
          subst h0 hq0
          obtain rfl : m = ql := by simpa using hm1
          have hs0 : (srtK []).length = 0 := by rw [srtK_len]; rfl
          rw [hs0]
          go_wp2_with fail
          refine (lw_holdX H4.out (by omega)).mono ?_
          rintro _ w5 ⟨A5, c5, g5, rfl, h1, h2⟩
          have H5 := Lib.hid (H4.out.kept h2)
          clear h1 h2
          rw [hs0]
          go_wp2_with fail
          refine (lw_queueX H5.out (by omega)).mono ?_
          rintro _ w6 ⟨A6, c6, g6, rfl, h1, h2⟩
          have H6 := Lib.hid (H5.out.kept h2)
          clear h1 h2
          go_wp2
          go_ret
          exact ⟨rfl, HB1.out.trans (H6.out.bel.mono HB1.out.size)⟩
        · have hlp : 0 < (srtK H').length := by rw [hsl]; exact List.length_pos_iff.2 h0
          have hlpI : (0 : Int) < ((srtK H').length : Int) := by omega
          obtain ⟨x, hx⟩ : ∃ x, (srtK H')[0]? = some x := ⟨(srtK H')[0], List.getElem?_eq_getElem hlp⟩
          have HMX := Lib.hid (show x ∈ srtK H' from List.mem_of_getElem? hx)
          have HX := Lib.hid hx
          clear hx
          go_wp2_with fail
          refine (lw_holdX H4.out (by omega)).mono ?_
          rintro _ w5 ⟨A5, c5, g5, rfl, h1, h2⟩
          obtain ⟨rfl, b5, e5⟩ := h1.cell 0 x HX.out
          have H5 := Lib.hid (H4.out.kept h2)
          clear h1 h2
          go_wp2_with fail
          refine (lw_leaveX H5.out (by omega) x (H5.out.hold HMX.out).1).mono ?_
          rintro _ w6 ⟨A6, c6, g6, rfl, h1, h2⟩
          have H6 := Lib.hid h1
          have HLV := Lib.hid (H5.out.lv_hold HMX.out)
          have hlv1 := HLV.out.1
          have hlv2 := HLV.out.2
          have hlv3 : m + (lvC Q' H' x).length ≤ 100 := by omega
          have hlvI : ((lvC Q' H' x).length : Int) ≤ 100 := by omega
          clear h1 h2 e5
          go_wp2_with fail
          go_roundw
          case rel => exact ⟨j + 1, m + (lvC Q' H' x).length, lvQ Q' H' x, lvH Q' H' x, by go_num, by go_num, by omega, by omega, H6.out, em_lv HE3.out x⟩
          case measure => simp [intOf]; omega
set_option maxHeartbeats 4000000 in
theorem ends_big (w : World) (A : Option Addr) (len cap : Nat) (h : 100 < len) : Calls Try.prog 6 #[.slice A len cap] w fun e w' => e = .returned (.bool true) ∧ Below w.heap.size w w' := by
  have hl2 : (len : Int) > 100 := by omega
  go_enter Try.func6, Try.ntmps6
  go_wp2_with fail
  refine (first_any _).mono ?_
  rintro _ w1 ⟨rfl, hb⟩
  have HB1 := Lib.hid hb
  clear hb
  go_wp2_with fail
  refine (first_any _).mono ?_
  rintro _ w2 ⟨rfl, hb⟩
  have HB2 := Lib.hid hb
  clear hb
  go_wp2
  go_ret
  exact ⟨rfl, HB1.out.trans (HB2.out.mono HB1.out.size)⟩
theorem rwEnds_walk (w : World) (A0 : Option Addr) (len0 cap0 : Nat) (S0 : Sh.ok w (Sh.slice 2 (Sh.agg 2 [(0, 1, (Sh.int .i64)), (1, 1, (Sh.int .i64))])) [.slice A0 len0 cap0]) :
    Calls Try.prog 6 #[.slice A0 len0 cap0] w fun e w' => e = .returned (.bool true) ∧ Below w.heap.size w w' := by
  obtain ⟨b, off, xs, hl, hm, hA⟩ := acts_of S0
  by_cases h : 100 < len0
  · exact ends_big w A0 len0 cap0 h
  · exact ends_in w A0 len0 cap0 b off xs hl hm (by omega) hA
end Go.Proofs.Ytkhlimlcnlalgaa
