/- RwTurns: its walk. -/
import Derived.Test.YtkhlimlcnlalgaaKt
namespace Go.Proofs.Ytkhlimlcnlalgaa
open Go.RowKit Go.Maps
open Go.ChangeShapes Go.ChangeAt
set_option linter.unusedVariables false
set_option linter.unusedSimpArgs false
set_option maxRecDepth 100000
section
variable {w0 w w' : World} {R b n m m' mi : Nat} {Q H : List Pq} {V1 V2 : Value} {l1 l2 a r : List Int} {A B : Option Addr} {c cb gb : Nat}
theorem T3.sl1 (h : T3 w0 w R b n Q H V1 l1 V2 l2) : ∃ A c g o nl, V1 = .slice A nl c ∧ l1.length = nl ∧ No w A c g o l1 := by
  obtain ⟨A, c, g, o, e, h1⟩ := h.one.sl
  exact ⟨A, c, g, o, _, e, rfl, h1⟩
theorem T3.no (h : T3 w0 w R b n Q H (.slice A m c) l1 V2 l2) : ∃ g o, No w A c g o l1 := by
  obtain ⟨A', c', g, o, e, h1⟩ := h.one.sl
  cases e
  exact ⟨g, o, h1⟩
theorem t_wo1 (h : T3 w0 w R b n Q H (.slice A m c) l1 V2 l2) (hm : l1.length = m) (hn : m ≤ 1000) (x : Int) (hm' : (wo l1 x).length = m') : Calls Try.prog 20 #[.slice A m c, .int .i64 x] w fun e w' => ∃ A' c', e = .returned (.slice A' m' c') ∧ T3 w0 w' R b n Q H (.slice A' m' c') (wo l1 x) V2 l2 ∧ Below w.heap.size w w' := by
  obtain ⟨g, o, h1⟩ := h.no
  subst hm
  refine (without_any h1 hn x).mono ?_
  rintro _ w' ⟨U, rfl, h2, h3⟩
  obtain ⟨A', c', g', rfl, _⟩ := nl_row h2
  subst hm'
  exact ⟨A', c', rfl, h.new h3 h2, h3⟩
theorem t_wo2 (h : T3 w0 w R b n Q H V1 l1 (.slice A m c) l2) (hm : l2.length = m) (hn : m ≤ 1000) (x : Int) (hm' : (wo l2 x).length = m') : Calls Try.prog 20 #[.slice A m c, .int .i64 x] w fun e w' => ∃ A' c', e = .returned (.slice A' m' c') ∧ T3 w0 w' R b n Q H V1 l1 (.slice A' m' c') (wo l2 x) ∧ Below w.heap.size w w' := by
  refine (t_wo1 h.swap hm hn x hm').mono ?_
  rintro _ w' ⟨A', c', rfl, h1, h2⟩
  exact ⟨A', c', rfl, h1.swap, h2⟩
theorem t_ints (h : T3 w0 w R b n Q H (.slice A m c) l1 V2 l2) (hm : l1.length = m) (hn : m ≤ 1000) (k : Nl w B cb gb l1) : Calls Try.prog 11 #[.slice B m cb, .slice A m c] w fun e w' => e = .returned (.bool true) ∧ Below w.heap.size w w' := by
  obtain ⟨g, o, h1⟩ := h.no
  subst hm
  exact ints_off k h1 (by omega)
theorem t_ints2 (h : T3 w0 w R b n Q H (.slice A m c) (a ++ r) V2 l2) (hm : a.length = mi) (hn : mi ≤ 1000) (k : Nl w B cb gb a) : Calls Try.prog 11 #[.slice B mi cb, .slice A mi c] w fun e w' => e = .returned (.bool true) ∧ Below w.heap.size w w' := by
  obtain ⟨g, o, h1⟩ := h.no
  subst hm
  exact ints_off k h1.head (by omega)
theorem t_queue (h : Lw w0 w R b n Q H) (hn : n ≤ 1000) (hm : (keysOf Q).length = m) : Calls Try.prog 18 #[.pointer (some ⟨R, 0, none⟩)] w fun e w' => ∃ A c g, e = .returned (.slice A m c) ∧ Nl w' A c g (keysOf Q) ∧ Below w.heap.size w w' := by
  refine (lw_queue h hn _ rfl).mono ?_
  rintro _ w' ⟨U, rfl, h1, h2⟩
  obtain ⟨A, c, g, rfl, h3⟩ := nl_row h1
  rw [hm]
  exact ⟨A, c, g, rfl, h3, h2⟩
theorem t_hold (h : Lw w0 w R b n Q H) (hn : n ≤ 1000) (hm : (srtK H).length = m) : Calls Try.prog 16 #[.pointer (some ⟨R, 0, none⟩)] w fun e w' => ∃ A c g, e = .returned (.slice A m c) ∧ Nl w' A c g (srtK H) ∧ Below w.heap.size w w' := by
  refine (lw_hold h hn _ rfl).mono ?_
  rintro _ w' ⟨U, rfl, h1, h2⟩
  obtain ⟨A, c, g, rfl, h3⟩ := nl_row h1
  rw [hm]
  exact ⟨A, c, g, rfl, h3, h2⟩
theorem kq_len (Q : List Pq) : (keysOf Q).length = Q.length := by unfold keysOf; rw [List.length_map]
theorem T3.qlen (h : T3 w0 w R b n Q H V1 l1 V2 l2) : (keysOf Q).length ≤ n ∧ (srtK H).length ≤ n := by
  have := h.lw.lenb
  rw [kq_len, srtK_len]
  omega
end
set_option maxHeartbeats 8000000 in
theorem turns_in (w : World) (A : Option Addr) (len cap blk off : Nat) (xs : Nat → Int × Int) (hl : len ≤ cap) (hm : cap ≤ maxLen) (hlen : len ≤ 100) (hA : Acts w A len blk off xs) :
    Calls Try.prog 5 #[.slice A len cap] w fun e w' => e = .returned (.bool true) ∧ Below w.heap.size w w' := by
  obtain ⟨i0, hi, hz0, hz1, hz2⟩ := info_parts info3
  have HA := Lib.hid hA
  have hl2 : ¬ (len : Int) > 100 := by omega
  unfold maxLen at hm
  clear hA
  go_enter Try.func5, Try.ntmps5
  go_wp2_with fail
  refine (first_any _).mono ?_
  rintro _ w1 ⟨rfl, hb⟩
  have HB1 := Lib.hid hb
  have HA1 := Lib.hid (HA.out.keep hb)
  clear hb
  go_wp2_with fail
  refine (lw_new _).mono ?_
  rintro _ w2 ⟨R, b, rfl, h1⟩
  have H2 := Lib.hid (t_new h1)
  clear h1
  go_wp2_with fail
  go_loopw [4, 5, 6] (fun v1 v2 i wr => ∃ (k : Nat) (Q H : List Pq) (W : List Int), k ≤ len ∧ i = .int .i64 (k : Int) ∧ T3 w1 wr R b k Q H v1 (keysOf Q) v2 W ∧ St Q H ∧ Wr Q W ∧ W.length ≤ k) (fun _ _ i _ => len - (intOf i).toNat)
  case atStart => exact ⟨0, [], [], [], Nat.zero_le _, rfl, H2.out, fun p Q' e => (by cases e), fun p hp => (by cases hp), Nat.le_refl _⟩
  case round =>
    obtain ⟨k, Q, H, W, hk, rfl, hc, hst, hwr, hWl⟩ := hrel
    obtain ⟨A1, c1, g1, o1, nq, rfl, hnq, _⟩ := hc.sl1
    obtain ⟨A2, c2, g2, o2, nw, rfl, hnw, _⟩ := hc.swap.sl1
    have HC := Lib.hid hc
    have HST := Lib.hid hst
    have HWR := Lib.hid hwr
    have HNQ := Lib.hid hnq
    have HNW := Lib.hid hnw
    have hnqk : nq ≤ k := by rw [← hnq]; exact hc.qlen.1
    have hnwk : nw ≤ k := by rw [← hnw]; exact hWl
    clear hst hwr hnq hnw
    by_cases hlt : k < len
    · obtain ⟨d0, d1, f1⟩ := (HA1.out.keep hc.bel).2 k hlt
      obtain rfl := (HA1.out.1 (by omega)).1
      have HX := Lib.hid (fun w' (h : Below w1.heap.size w1 w') => (HA1.out.keep h).2 k hlt)
      obtain ⟨op, hop⟩ : ∃ op, (xs k).1 = op := ⟨_, rfl⟩
      obtain ⟨x, hx⟩ : ∃ x, (xs k).2 = x := ⟨_, rfl⟩
      rw [hop] at d0
      rw [hx] at d1 f1
      rw [hop, hx] at HX
      have F1 := Lib.hid f1
      obtain ⟨s, hs⟩ : ∃ s, stL Q H x = s := ⟨_, rfl⟩
      have HS := Lib.hid hs
      clear hop hx hc f1 hs
      have hkI : (k : Int) < (len : Int) := by omega
      go_wp2_with fail
      refine (lw_state HC.out.lw (by omega) x F1.out s HS.out).mono ?_
      rintro _ w3 ⟨rfl, h1⟩
      have HC3 := Lib.hid (HC.out.read h1)
      have d0 := (HX.out _ HC3.out.bel).1
      clear h1 d1
      by_cases o0 : op = 0
      · subst o0
        have o01 : ((0 : Int) == 1) = false := rfl
        by_cases hs0 : s = 0
        · subst hs0
          obtain ⟨nv, hnv⟩ : ∃ nv, (wo W x).length = nv := ⟨_, rfl⟩
          have hnvk : nv ≤ k := by rw [← hnv]; exact Nat.le_trans (wo_len W x) (by rw [HNW.out]; exact hnwk)
          have HNV := Lib.hid hnv
          clear hnv
          have HWA := Lib.hid (wr_ask HC3.out.lw HWR.out HS.out false)
          have HS2 := Lib.hid (st_ask (x := x) HST.out false)
          rcases ask_turn HC3.out.lw HST.out HS.out false with ⟨hr, hq, ha⟩ | ⟨hr, ha⟩
          · obtain rfl : nq = 0 := by rw [← HNQ.out, hq]; rfl
            have HAT := Lib.hid (t_ask HC3.out (by omega) x F1.out false true hr)
            have HE := Lib.hid (show keysOf (askQ Q H x false) = keysOf Q from by rw [ha, hq])
            have HW2 := Lib.hid (show Wr (askQ Q H x false) (if false then wo W x ++ [x] else wo W x) from by rw [ha]; exact fun p hp => by cases hp)
            clear hr hq ha
            go_wp2_with fail
            refine (HAT.out).mono ?_
            rintro _ w4 ⟨rfl, h1⟩
            have HC4 := Lib.hid h1
            clear h1 d0
            go_wp2_with fail
            refine (t_wo2 HC4.out HNW.out (by omega) x HNV.out).mono ?_
            rintro _ w5 ⟨A5, c5, rfl, h1, _⟩
            have HCV := Lib.hid h1
            have d0 := (HX.out _ HCV.out.bel).1
            clear h1
            have HCW := HCV
            have HNV2 := HNV
            go_wp2_with fail
            have h1 := HCW.out
            rw [← HE.out] at h1
            obtain ⟨Q2, H2, W2, h2, h3, h4, h5, h6⟩ : ∃ Q2 H2 W2, T3 w1 _ R b (k + 1) Q2 H2 (.slice A1 0 c1) (keysOf Q2) (.slice _ nv _) W2 ∧ St Q2 H2 ∧ Wr Q2 W2 ∧ (keysOf Q2).length = 0 ∧ W2.length = nv := ⟨_, _, _, h1, HS2.out, HW2.out, by rw [HE.out]; exact HNQ.out, HNV2.out⟩
            have HT := Lib.hid h2
            have HST2 := Lib.hid h3
            have HWR2 := Lib.hid h4
            have HN8 := Lib.hid h5
            have HN9 := Lib.hid h6
            clear h1 h2 h3 h4 h5 h6
            refine (t_queue HT.out.lw (by omega) HN8.out).mono ?_
            rintro _ y1 ⟨B1, e1, gg1, rfl, h1, h2⟩
            have HT1 := Lib.hid (HT.out.read h2)
            have HY1 := Lib.hid h1
            clear h1 h2
            go_wp2_with fail
            refine (t_ints HT1.out HN8.out (by omega) HY1.out).mono ?_
            rintro _ y2 ⟨rfl, h1⟩
            have HT2 := Lib.hid (HT1.out.read h1)
            clear h1
            obtain ⟨nh, hnh⟩ : ∃ nh, (srtK H2).length = nh := ⟨_, rfl⟩
            have HNH := Lib.hid hnh
            have hnhk : nh ≤ k + 1 := by rw [← hnh]; exact HT2.out.qlen.2
            clear hnh
            go_wp2_with fail
            refine (t_hold HT2.out.lw (by omega) HNH.out).mono ?_
            rintro _ y3 ⟨B3, e3, gg3, rfl, h1, h2⟩
            have HT3 := Lib.hid (HT2.out.read h2)
            have HY3 := Lib.hid h1
            have hle3 : nh ≤ e3 := by have := h1.le; rw [HNH.out] at this; exact this
            clear h1 h2
            go_wp2_with fail
            go_roundw
            case rel => exact ⟨k + 1, Q2, H2, W2, by omega, by go_num, HT3.out, HST2.out, HWR2.out, by rw [HN9.out]; omega⟩
            case measure => simp [intOf]; omega
          · have HAT := Lib.hid (t_ask HC3.out (by omega) x F1.out false false hr)
            have HE := Lib.hid (show keysOf (askQ Q H x false) = keysOf Q ++ [x] from by rw [ha]; unfold keysOf; simp)
            have HW2 := Lib.hid (show Wr (askQ Q H x false) (if false then wo W x ++ [x] else wo W x) from by rw [ha]; exact HWA.out)
            clear hr ha
            go_wp2_with fail
            refine (HAT.out).mono ?_
            rintro _ w4 ⟨rfl, h1⟩
            have HC4 := Lib.hid h1
            clear h1 d0
            go_wp2_with fail
            refine (t_wo2 HC4.out HNW.out (by omega) x HNV.out).mono ?_
            rintro _ w5 ⟨A5, c5, rfl, h1, _⟩
            have HCV := Lib.hid h1
            have d0 := (HX.out _ HCV.out.bel).1
            clear h1
            have HCW := HCV
            have HNV2 := HNV
            go_wp2_with (first
              -- no push of who asked to write
              | (at_builtin
                 refine wpList_ipush rfl (.tmp 89) (.tmp 91) rfl (V := .slice A1 nq c1) (l := keysOf Q) (B := w1.heap.size) (HCW.out.read ((Below.refl _ _).alloc (Nat.le_refl _) _)).one (by have := HCW.out.bel.size; simp; omega) (by rw [HNQ.out]; omega) rfl ⟨w5.heap.size, 0, none⟩ 1 x rfl (World.news_of_block (cs := #[.int .i64 x]) (t := 3) (fr := (0, 0)) (Blk.new w5 3 _)) hi hz0 hz1 hz2 ?_
                 intro V8 w8 hq hg ho
                 have h1 := (HCW.out.read ((Below.refl _ _).alloc (Nat.le_refl _) _)).push hq hg ho
                 obtain ⟨A8, c8, _, _, n8, rfl, hn8, _⟩ := h1.sl1
                 have hn8k : n8 ≤ k + 1 := by rw [← hn8, List.length_append, HNQ.out]; simp; omega
                 have HC8 := Lib.hid h1
                 have HN8' := Lib.hid hn8
                 clear h1 hq hg ho hn8)
              | fail)
            have h1 := HC8.out
            rw [← HE.out] at h1
            obtain ⟨Q2, H2, W2, h2, h3, h4, h5, h6⟩ : ∃ Q2 H2 W2, T3 w1 _ R b (k + 1) Q2 H2 (.slice A8 n8 c8) (keysOf Q2) (.slice _ nv _) W2 ∧ St Q2 H2 ∧ Wr Q2 W2 ∧ (keysOf Q2).length = n8 ∧ W2.length = nv := ⟨_, _, _, h1, HS2.out, HW2.out, by rw [HE.out]; exact HN8'.out, HNV2.out⟩
            have HT := Lib.hid h2
            have HST2 := Lib.hid h3
            have HWR2 := Lib.hid h4
            have HN8 := Lib.hid h5
            have HN9 := Lib.hid h6
            clear h1 h2 h3 h4 h5 h6
            refine (t_queue HT.out.lw (by omega) HN8.out).mono ?_
            rintro _ y1 ⟨B1, e1, gg1, rfl, h1, h2⟩
            have HT1 := Lib.hid (HT.out.read h2)
            have HY1 := Lib.hid h1
            clear h1 h2
            go_wp2_with fail
            refine (t_ints HT1.out HN8.out (by omega) HY1.out).mono ?_
            rintro _ y2 ⟨rfl, h1⟩
            have HT2 := Lib.hid (HT1.out.read h1)
            clear h1
            obtain ⟨nh, hnh⟩ : ∃ nh, (srtK H2).length = nh := ⟨_, rfl⟩
            have HNH := Lib.hid hnh
            have hnhk : nh ≤ k + 1 := by rw [← hnh]; exact HT2.out.qlen.2
            clear hnh
            go_wp2_with fail
            refine (t_hold HT2.out.lw (by omega) HNH.out).mono ?_
            rintro _ y3 ⟨B3, e3, gg3, rfl, h1, h2⟩
            have HT3 := Lib.hid (HT2.out.read h2)
            have HY3 := Lib.hid h1
            have hle3 : nh ≤ e3 := by have := h1.le; rw [HNH.out] at this; exact this
            clear h1 h2
            by_cases hz : n8 = 0
            · subst hz
              go_wp2_with fail
              go_roundw
              case rel => exact ⟨k + 1, Q2, H2, W2, by omega, by go_num, HT3.out, HST2.out, HWR2.out, by rw [HN9.out]; omega⟩
              case measure => simp [intOf]; omega
            · have hz1 : (decide ((n8 : Int) > 0)) = true := decide_eq_true (by omega)
              have hz4 : (0 : Int) < (n8 : Int) := by omega
              obtain ⟨p, Q', hQ⟩ : ∃ p Q', Q2 = p :: Q' := by
                cases Q2 with
                | nil => exact absurd HN8.out.symm hz
                | cons p Q' => exact ⟨p, Q', rfl⟩
              have HFW := Lib.hid (first_waits HT3.out.lw HST2.out HWR2.out hQ)
              have hnhp : 0 < nh := by rw [← HNH.out]; exact HFW.out.1
              have hz5 : (0 : Int) < (nh : Int) := by omega
              have hz2 : ((nh : Int) == 0) = false := beq_false_of_ne (by omega)
              obtain ⟨gw, ow, hno⟩ := HT3.out.no
              obtain ⟨hA, hgl, hcell⟩ := hno.cell 0 p.1 (by rw [hQ]; rfl)
              rw [Nat.add_zero] at hcell
              subst hA
              obtain ⟨y, hy⟩ : ∃ y, p.1 = y := ⟨_, rfl⟩
              have HFW2 := Lib.hid HFW.out.2
              rw [hy] at hcell HFW2
              clear hno hQ hy hz HFW
              obtain ⟨nx, hnx⟩ : ∃ nx, (wo W2 y).length = nx := ⟨_, rfl⟩
              have HNX := Lib.hid hnx
              have hnxk : nx ≤ nv := by rw [← hnx, ← HN9.out]; exact wo_len W2 y
              clear hnx
              go_wp2_with fail
              refine (t_wo2 HT3.out HN9.out (by omega) y HNX.out).mono ?_
              rintro _ y4 ⟨B4, e4, rfl, _, h2⟩
              have HT4 := Lib.hid (HT3.out.read h2)
              have HY4 := Lib.hid (HY3.out.below h2)
              clear h2 hcell
              by_cases hyW : y ∈ W2
              · have hlt2 : nx < nv := by rw [← HNX.out, ← HN9.out]; exact wo_lt hyW
                have hz3 : ((nx : Int) == (nv : Int)) = false := beq_false_of_ne (by omega)
                clear hlt2 hyW
                go_wp2_with fail
                go_roundw
                case rel => exact ⟨k + 1, Q2, H2, W2, by omega, by go_num, HT4.out, HST2.out, HWR2.out, by rw [HN9.out]; omega⟩
                case measure => simp [intOf]; omega
              · obtain ⟨u, hu1, hu2, hu3⟩ := HFW2.out hyW
                have hz3 : ((nx : Int) == (nv : Int)) = true := beq_iff_eq.2 (by rw [← HNX.out, ← HN9.out, wo_id hyW])
                obtain ⟨hB, hgl2, hcell2⟩ := HY4.out.cell 0 u (by rw [hu1]; rfl)
                subst hB
                have HU := Lib.hid hu2
                have HU3 := Lib.hid hu3
                clear hu1 hu2 hu3 hyW
                go_wp2_with fail
                refine (lw_state HT4.out.lw (by omega) u HU.out 3 HU3.out).mono ?_
                rintro _ y5 ⟨rfl, h1⟩
                have HT5 := Lib.hid (HT4.out.read h1)
                clear h1 hcell2
                go_wp2_with fail
                go_roundw
                case rel => exact ⟨k + 1, Q2, H2, W2, by omega, by go_num, HT5.out, HST2.out, HWR2.out, by rw [HN9.out]; omega⟩
                case measure => simp [intOf]; omega
        · have hsn : (s != 0) = true := by simpa using hs0
          obtain ⟨e1, e2, e3⟩ := ask_same (x := x) (fun h => hs0 (HS.out.symm.trans h)) false
          have h0 := t_ask HC3.out (by omega) x F1.out false false e1
          rw [e2, e3] at h0
          have HAT := Lib.hid h0
          clear h0 e1 e2 e3 hs0
          go_wp2_with fail
          refine (HAT.out).mono ?_
          rintro _ w4 ⟨rfl, h1⟩
          have HC4 := Lib.hid h1
          clear h1 d0
          go_wp2_with fail
          refine (lw_state HC4.out.lw (by omega) x F1.out s HS.out).mono ?_
          rintro _ w5 ⟨rfl, h1⟩
          have HC5 := Lib.hid (HC4.out.read h1)
          clear h1
          go_wp2_with fail
          go_roundw
          case rel => exact ⟨k + 1, Q, H, W, by omega, by go_num, HC5.out, HST.out, HWR.out, by rw [HNW.out]; omega⟩
          case measure => simp [intOf]; omega
      · have o0' : (op == 0) = false := by simpa using o0
        by_cases o1 : op = 1
        · subst o1
          by_cases hs0 : s = 0
          · subst hs0
            obtain ⟨nv, hnv⟩ : ∃ nv, (wo W x).length = nv := ⟨_, rfl⟩
            have hnvk : nv ≤ k := by rw [← hnv]; exact Nat.le_trans (wo_len W x) (by rw [HNW.out]; exact hnwk)
            have HNV := Lib.hid hnv
            clear hnv
            have HWA := Lib.hid (wr_ask HC3.out.lw HWR.out HS.out true)
            have HS2 := Lib.hid (st_ask (x := x) HST.out true)
            rcases ask_turn HC3.out.lw HST.out HS.out true with ⟨hr, hq, ha⟩ | ⟨hr, ha⟩
            · obtain rfl : nq = 0 := by rw [← HNQ.out, hq]; rfl
              have HAT := Lib.hid (t_ask HC3.out (by omega) x F1.out true true hr)
              have HE := Lib.hid (show keysOf (askQ Q H x true) = keysOf Q from by rw [ha, hq])
              have HW2 := Lib.hid (show Wr (askQ Q H x true) (if true then wo W x ++ [x] else wo W x) from by rw [ha]; exact fun p hp => by cases hp)
              clear hr hq ha
              go_wp2_with fail
              refine (HAT.out).mono ?_
              rintro _ w4 ⟨rfl, h1⟩
              have HC4 := Lib.hid h1
              clear h1 d0
              go_wp2_with fail
              refine (t_wo2 HC4.out HNW.out (by omega) x HNV.out).mono ?_
              rintro _ w5 ⟨A5, c5, rfl, h1, _⟩
              have HCV := Lib.hid h1
              have d0 := (HX.out _ HCV.out.bel).1
              clear h1
              go_wp2_with (first
                | (at_builtin
                   refine wpList_ipush rfl (.tmp 77) (.tmp 79) rfl (V := .slice A5 nv c5) (l := wo W x) (B := w1.heap.size) (HCV.out.read ((Below.refl _ _).alloc (Nat.le_refl _) _)).two (by have := HCV.out.bel.size; simp; omega) (by rw [HNV.out]; omega) rfl ⟨w5.heap.size, 0, none⟩ 1 x rfl (World.news_of_block (cs := #[.int .i64 x]) (t := 3) (fr := (0, 0)) (Blk.new w5 3 _)) hi hz0 hz1 hz2 ?_
                   intro V6 w6 hq hg ho
                   have h1 := ((HCV.out.read ((Below.refl _ _).alloc (Nat.le_refl _) _)).swap.push hq hg ho).swap
                   obtain ⟨A6, c6, _, _, n6, rfl, hn6, _⟩ := h1.swap.sl1
                   have hn6k : n6 ≤ k + 1 := by rw [← hn6, List.length_append, HNV.out]; simp; omega
                   have HCW := Lib.hid h1
                   have HNV2 := Lib.hid hn6
                   clear h1 hq hg ho hn6)
                | fail)
              have h1 := HCW.out
              rw [← HE.out] at h1
              obtain ⟨Q2, H2, W2, h2, h3, h4, h5, h6⟩ : ∃ Q2 H2 W2, T3 w1 _ R b (k + 1) Q2 H2 (.slice A1 0 c1) (keysOf Q2) (.slice _ n6 _) W2 ∧ St Q2 H2 ∧ Wr Q2 W2 ∧ (keysOf Q2).length = 0 ∧ W2.length = n6 := ⟨_, _, _, h1, HS2.out, HW2.out, by rw [HE.out]; exact HNQ.out, HNV2.out⟩
              have HT := Lib.hid h2
              have HST2 := Lib.hid h3
              have HWR2 := Lib.hid h4
              have HN8 := Lib.hid h5
              have HN9 := Lib.hid h6
              clear h1 h2 h3 h4 h5 h6
              refine (t_queue HT.out.lw (by omega) HN8.out).mono ?_
              rintro _ y1 ⟨B1, e1, gg1, rfl, h1, h2⟩
              have HT1 := Lib.hid (HT.out.read h2)
              have HY1 := Lib.hid h1
              clear h1 h2
              go_wp2_with fail
              refine (t_ints HT1.out HN8.out (by omega) HY1.out).mono ?_
              rintro _ y2 ⟨rfl, h1⟩
              have HT2 := Lib.hid (HT1.out.read h1)
              clear h1
              obtain ⟨nh, hnh⟩ : ∃ nh, (srtK H2).length = nh := ⟨_, rfl⟩
              have HNH := Lib.hid hnh
              have hnhk : nh ≤ k + 1 := by rw [← hnh]; exact HT2.out.qlen.2
              clear hnh
              go_wp2_with fail
              refine (t_hold HT2.out.lw (by omega) HNH.out).mono ?_
              rintro _ y3 ⟨B3, e3, gg3, rfl, h1, h2⟩
              have HT3 := Lib.hid (HT2.out.read h2)
              have HY3 := Lib.hid h1
              have hle3 : nh ≤ e3 := by have := h1.le; rw [HNH.out] at this; exact this
              clear h1 h2
              go_wp2_with fail
              go_roundw
              case rel => exact ⟨k + 1, Q2, H2, W2, by omega, by go_num, HT3.out, HST2.out, HWR2.out, by rw [HN9.out]; omega⟩
              case measure => simp [intOf]; omega
            · have HAT := Lib.hid (t_ask HC3.out (by omega) x F1.out true false hr)
              have HE := Lib.hid (show keysOf (askQ Q H x true) = keysOf Q ++ [x] from by rw [ha]; unfold keysOf; simp)
              have HW2 := Lib.hid (show Wr (askQ Q H x true) (if true then wo W x ++ [x] else wo W x) from by rw [ha]; exact HWA.out)
              clear hr ha
              go_wp2_with fail
              refine (HAT.out).mono ?_
              rintro _ w4 ⟨rfl, h1⟩
              have HC4 := Lib.hid h1
              clear h1 d0
              go_wp2_with fail
              refine (t_wo2 HC4.out HNW.out (by omega) x HNV.out).mono ?_
              rintro _ w5 ⟨A5, c5, rfl, h1, _⟩
              have HCV := Lib.hid h1
              have d0 := (HX.out _ HCV.out.bel).1
              clear h1
              skip
              go_wp2_with (first
                | (at_builtin
                   refine wpList_ipush rfl (.tmp 77) (.tmp 79) rfl (V := .slice A5 nv c5) (l := wo W x) (B := w1.heap.size) (HCV.out.read ((Below.refl _ _).alloc (Nat.le_refl _) _)).two (by have := HCV.out.bel.size; simp; omega) (by rw [HNV.out]; omega) rfl ⟨w5.heap.size, 0, none⟩ 1 x rfl (World.news_of_block (cs := #[.int .i64 x]) (t := 3) (fr := (0, 0)) (Blk.new w5 3 _)) hi hz0 hz1 hz2 ?_
                   intro V6 w6 hq hg ho
                   have h1 := ((HCV.out.read ((Below.refl _ _).alloc (Nat.le_refl _) _)).swap.push hq hg ho).swap
                   obtain ⟨A6, c6, _, _, n6, rfl, hn6, _⟩ := h1.swap.sl1
                   have hn6k : n6 ≤ k + 1 := by rw [← hn6, List.length_append, HNV.out]; simp; omega
                   have HCW := Lib.hid h1
                   have HNV2 := Lib.hid hn6
                   clear h1 hq hg ho hn6)
                | (at_builtin
                   refine wpList_ipush rfl (.tmp 89) (.tmp 91) rfl (V := .slice A1 nq c1) (l := keysOf Q) (B := w1.heap.size) (HCW.out.read ((Below.refl _ _).alloc (Nat.le_refl _) _)).one (by have := HCW.out.bel.size; simp; omega) (by rw [HNQ.out]; omega) rfl ⟨w6.heap.size, 0, none⟩ 1 x rfl (World.news_of_block (cs := #[.int .i64 x]) (t := 3) (fr := (0, 0)) (Blk.new w6 3 _)) hi hz0 hz1 hz2 ?_
                   intro V8 w8 hq hg ho
                   have h1 := (HCW.out.read ((Below.refl _ _).alloc (Nat.le_refl _) _)).push hq hg ho
                   obtain ⟨A8, c8, _, _, n8, rfl, hn8, _⟩ := h1.sl1
                   have hn8k : n8 ≤ k + 1 := by rw [← hn8, List.length_append, HNQ.out]; simp; omega
                   have HC8 := Lib.hid h1
                   have HN8' := Lib.hid hn8
                   clear h1 hq hg ho hn8)
                | fail)
              have h1 := HC8.out
              rw [← HE.out] at h1
              obtain ⟨Q2, H2, W2, h2, h3, h4, h5, h6⟩ : ∃ Q2 H2 W2, T3 w1 _ R b (k + 1) Q2 H2 (.slice A8 n8 c8) (keysOf Q2) (.slice _ n6 _) W2 ∧ St Q2 H2 ∧ Wr Q2 W2 ∧ (keysOf Q2).length = n8 ∧ W2.length = n6 := ⟨_, _, _, h1, HS2.out, HW2.out, by rw [HE.out]; exact HN8'.out, HNV2.out⟩
              have HT := Lib.hid h2
              have HST2 := Lib.hid h3
              have HWR2 := Lib.hid h4
              have HN8 := Lib.hid h5
              have HN9 := Lib.hid h6
              clear h1 h2 h3 h4 h5 h6
              refine (t_queue HT.out.lw (by omega) HN8.out).mono ?_
              rintro _ y1 ⟨B1, e1, gg1, rfl, h1, h2⟩
              have HT1 := Lib.hid (HT.out.read h2)
              have HY1 := Lib.hid h1
              clear h1 h2
              go_wp2_with fail
              refine (t_ints HT1.out HN8.out (by omega) HY1.out).mono ?_
              rintro _ y2 ⟨rfl, h1⟩
              have HT2 := Lib.hid (HT1.out.read h1)
              clear h1
              obtain ⟨nh, hnh⟩ : ∃ nh, (srtK H2).length = nh := ⟨_, rfl⟩
              have HNH := Lib.hid hnh
              have hnhk : nh ≤ k + 1 := by rw [← hnh]; exact HT2.out.qlen.2
              clear hnh
              go_wp2_with fail
              refine (t_hold HT2.out.lw (by omega) HNH.out).mono ?_
              rintro _ y3 ⟨B3, e3, gg3, rfl, h1, h2⟩
              have HT3 := Lib.hid (HT2.out.read h2)
              have HY3 := Lib.hid h1
              have hle3 : nh ≤ e3 := by have := h1.le; rw [HNH.out] at this; exact this
              clear h1 h2
              by_cases hz : n8 = 0
              · subst hz
                go_wp2_with fail
                go_roundw
                case rel => exact ⟨k + 1, Q2, H2, W2, by omega, by go_num, HT3.out, HST2.out, HWR2.out, by rw [HN9.out]; omega⟩
                case measure => simp [intOf]; omega
              · have hz1 : (decide ((n8 : Int) > 0)) = true := decide_eq_true (by omega)
                have hz4 : (0 : Int) < (n8 : Int) := by omega
                obtain ⟨p, Q', hQ⟩ : ∃ p Q', Q2 = p :: Q' := by
                  cases Q2 with
                  | nil => exact absurd HN8.out.symm hz
                  | cons p Q' => exact ⟨p, Q', rfl⟩
                have HFW := Lib.hid (first_waits HT3.out.lw HST2.out HWR2.out hQ)
                have hnhp : 0 < nh := by rw [← HNH.out]; exact HFW.out.1
                have hz5 : (0 : Int) < (nh : Int) := by omega
                have hz2 : ((nh : Int) == 0) = false := beq_false_of_ne (by omega)
                obtain ⟨gw, ow, hno⟩ := HT3.out.no
                obtain ⟨hA, hgl, hcell⟩ := hno.cell 0 p.1 (by rw [hQ]; rfl)
                rw [Nat.add_zero] at hcell
                subst hA
                obtain ⟨y, hy⟩ : ∃ y, p.1 = y := ⟨_, rfl⟩
                have HFW2 := Lib.hid HFW.out.2
                rw [hy] at hcell HFW2
                clear hno hQ hy hz HFW
                obtain ⟨nx, hnx⟩ : ∃ nx, (wo W2 y).length = nx := ⟨_, rfl⟩
                have HNX := Lib.hid hnx
                have hnxk : nx ≤ n6 := by rw [← hnx, ← HN9.out]; exact wo_len W2 y
                clear hnx
                go_wp2_with fail
                refine (t_wo2 HT3.out HN9.out (by omega) y HNX.out).mono ?_
                rintro _ y4 ⟨B4, e4, rfl, _, h2⟩
                have HT4 := Lib.hid (HT3.out.read h2)
                have HY4 := Lib.hid (HY3.out.below h2)
                clear h2 hcell
                by_cases hyW : y ∈ W2
                · have hlt2 : nx < n6 := by rw [← HNX.out, ← HN9.out]; exact wo_lt hyW
                  have hz3 : ((nx : Int) == (n6 : Int)) = false := beq_false_of_ne (by omega)
                  clear hlt2 hyW
                  go_wp2_with fail
                  go_roundw
                  case rel => exact ⟨k + 1, Q2, H2, W2, by omega, by go_num, HT4.out, HST2.out, HWR2.out, by rw [HN9.out]; omega⟩
                  case measure => simp [intOf]; omega
                · obtain ⟨u, hu1, hu2, hu3⟩ := HFW2.out hyW
                  have hz3 : ((nx : Int) == (n6 : Int)) = true := beq_iff_eq.2 (by rw [← HNX.out, ← HN9.out, wo_id hyW])
                  obtain ⟨hB, hgl2, hcell2⟩ := HY4.out.cell 0 u (by rw [hu1]; rfl)
                  subst hB
                  have HU := Lib.hid hu2
                  have HU3 := Lib.hid hu3
                  clear hu1 hu2 hu3 hyW
                  go_wp2_with fail
                  refine (lw_state HT4.out.lw (by omega) u HU.out 3 HU3.out).mono ?_
                  rintro _ y5 ⟨rfl, h1⟩
                  have HT5 := Lib.hid (HT4.out.read h1)
                  clear h1 hcell2
                  go_wp2_with fail
                  go_roundw
                  case rel => exact ⟨k + 1, Q2, H2, W2, by omega, by go_num, HT5.out, HST2.out, HWR2.out, by rw [HN9.out]; omega⟩
                  case measure => simp [intOf]; omega
          · have hsn : (s != 0) = true := by simpa using hs0
            obtain ⟨e1, e2, e3⟩ := ask_same (x := x) (fun h => hs0 (HS.out.symm.trans h)) true
            have h0 := t_ask HC3.out (by omega) x F1.out true false e1
            rw [e2, e3] at h0
            have HAT := Lib.hid h0
            clear h0 e1 e2 e3 hs0
            go_wp2_with fail
            refine (HAT.out).mono ?_
            rintro _ w4 ⟨rfl, h1⟩
            have HC4 := Lib.hid h1
            clear h1 d0
            go_wp2_with fail
            refine (lw_state HC4.out.lw (by omega) x F1.out s HS.out).mono ?_
            rintro _ w5 ⟨rfl, h1⟩
            have HC5 := Lib.hid (HC4.out.read h1)
            clear h1
            go_wp2_with fail
            go_roundw
            case rel => exact ⟨k + 1, Q, H, W, by omega, by go_num, HC5.out, HST.out, HWR.out, by rw [HNW.out]; omega⟩
            case measure => simp [intOf]; omega
        · have o1' : (op == 1) = false := by simpa using o1
          obtain ⟨mi, hmi⟩ : ∃ mi, (lvC Q H x).length = mi := ⟨_, rfl⟩
          have HLT := Lib.hid (leave_turn (x := x) HC3.out.lw)
          obtain ⟨nv, hnv⟩ : ∃ nv, (wo (keysOf Q) x).length = nv := ⟨_, rfl⟩
          have hmn : mi ≤ nv := by rw [← hmi, ← hnv, HLT.out.1, List.length_append]; omega
          have hnvk : nv ≤ k := by rw [← hnv]; exact Nat.le_trans (wo_len _ x) (by rw [HNQ.out]; exact hnqk)
          have HLV := t_leave HC3.out (by omega) x F1.out
          rw [hmi] at HLV
          have HLV := Lib.hid HLV
          have HMI := Lib.hid hmi
          have HNV := Lib.hid hnv
          clear hmi hnv
          go_wp2_with fail
          refine (HLV.out).mono ?_
          rintro _ w4 ⟨A4, c4, g4, rfl, h1, h2⟩
          have HC4 := Lib.hid h1
          have HI4 := Lib.hid h2
          clear h1 h2
          go_wp2_with fail
          refine (t_wo1 HC4.out HNQ.out (by omega) x HNV.out).mono ?_
          rintro _ w5 ⟨A5, c5, rfl, h1, h2⟩
          have hc5 : nv ≤ c5 := by
            obtain ⟨g, o, h⟩ := h1.no
            have := h.le
            rw [HNV.out] at this
            exact this
          rw [HLT.out.1] at h1
          have HC5 := Lib.hid h1
          have HI5 := Lib.hid (HI4.out.below h2)
          clear h1 h2
          go_wp2_with fail
          refine (lw_state HC5.out.lw (by omega) x F1.out 0 HLT.out.2.1).mono ?_
          rintro _ w6 ⟨rfl, h1⟩
          have HC6 := Lib.hid (HC5.out.read h1)
          have HI6 := Lib.hid (HI5.out.below h1)
          clear h1
          have hgt : (decide ((mi : Int) > (nv : Int))) = false := decide_eq_false (by omega)
          have ht := cut_to A5 nv c5 mi (by omega)
          have hf := cut_from A5 nv c5 mi (by omega)
          have HK6 := T3.cut HC6.out
          rw [HMI.out] at HK6
          have hl7 : (keysOf (lvQ Q H x)).length = nv - mi := by
            have h := congrArg List.length HLT.out.1
            rw [HNV.out, List.length_append, HMI.out] at h
            omega
          obtain ⟨A7, hA7⟩ : ∃ A7, cutA A5 c5 mi = A7 := ⟨_, rfl⟩
          obtain ⟨n7, hn7⟩ : ∃ n7, nv - mi = n7 := ⟨_, rfl⟩
          obtain ⟨c7, hc7⟩ : ∃ c7, c5 - mi = c7 := ⟨_, rfl⟩
          rw [hA7, hn7, hc7] at hf HK6
          rw [hn7] at hl7
          have hn7k : n7 ≤ k := by omega
          have HK7 := Lib.hid HK6
          have HL7 := Lib.hid hl7
          clear hA7 hn7 hc7 HK6 hl7
          go_wp2_with fail
          refine (t_ints2 HC6.out HMI.out (by omega) HI6.out).mono ?_
          rintro _ w7 ⟨rfl, h1⟩
          obtain ⟨Q2, H2, W2, h2, h3, h4, h5, h6⟩ : ∃ Q2 H2 W2, T3 w1 w7 R b (k + 1) Q2 H2 (.slice A7 n7 c7) (keysOf Q2) (.slice A2 nw c2) W2 ∧ St Q2 H2 ∧ Wr Q2 W2 ∧ (keysOf Q2).length = n7 ∧ W2.length = nw := ⟨lvQ Q H x, lvH Q H x, W, (HK7.out.read h1).mono (by omega), st_lv HST.out, fun p hp => HWR.out p (HLT.out.2.2 p hp), HL7.out, HNW.out⟩
          have HT := Lib.hid h2
          have HST2 := Lib.hid h3
          have HWR2 := Lib.hid h4
          have HN8 := Lib.hid h5
          have HN9 := Lib.hid h6
          clear h1 h2 h3 h4 h5 h6
          go_wp2_with fail
          refine (t_queue HT.out.lw (by omega) HN8.out).mono ?_
          rintro _ y1 ⟨B1, e1, gg1, rfl, h1, h2⟩
          have HT1 := Lib.hid (HT.out.read h2)
          have HY1 := Lib.hid h1
          clear h1 h2
          go_wp2_with fail
          refine (t_ints HT1.out HN8.out (by omega) HY1.out).mono ?_
          rintro _ y2 ⟨rfl, h1⟩
          have HT2 := Lib.hid (HT1.out.read h1)
          clear h1
          obtain ⟨nh, hnh⟩ : ∃ nh, (srtK H2).length = nh := ⟨_, rfl⟩
          have HNH := Lib.hid hnh
          have hnhk : nh ≤ k + 1 := by rw [← hnh]; exact HT2.out.qlen.2
          clear hnh
          go_wp2_with fail
          refine (t_hold HT2.out.lw (by omega) HNH.out).mono ?_
          rintro _ y3 ⟨B3, e3, gg3, rfl, h1, h2⟩
          have HT3 := Lib.hid (HT2.out.read h2)
          have HY3 := Lib.hid h1
          have hle3 : nh ≤ e3 := by have := h1.le; rw [HNH.out] at this; exact this
          clear h1 h2
          by_cases hz : n7 = 0
          · subst hz
            go_wp2_with fail
            go_roundw
            case rel => exact ⟨k + 1, Q2, H2, W2, by omega, by go_num, HT3.out, HST2.out, HWR2.out, by rw [HN9.out]; omega⟩
            case measure => simp [intOf]; omega
          · have hz1 : (decide ((n7 : Int) > 0)) = true := decide_eq_true (by omega)
            have hz4 : (0 : Int) < (n7 : Int) := by omega
            obtain ⟨p, Q', hQ⟩ : ∃ p Q', Q2 = p :: Q' := by
              cases Q2 with
              | nil => exact absurd HN8.out.symm hz
              | cons p Q' => exact ⟨p, Q', rfl⟩
            have HFW := Lib.hid (first_waits HT3.out.lw HST2.out HWR2.out hQ)
            have hnhp : 0 < nh := by rw [← HNH.out]; exact HFW.out.1
            have hz5 : (0 : Int) < (nh : Int) := by omega
            have hz2 : ((nh : Int) == 0) = false := beq_false_of_ne (by omega)
            obtain ⟨gw, ow, hno⟩ := HT3.out.no
            obtain ⟨hA, hgl, hcell⟩ := hno.cell 0 p.1 (by rw [hQ]; rfl)
            rw [Nat.add_zero] at hcell
            subst hA
            obtain ⟨y, hy⟩ : ∃ y, p.1 = y := ⟨_, rfl⟩
            have HFW2 := Lib.hid HFW.out.2
            rw [hy] at hcell HFW2
            clear hno hQ hy hz HFW
            obtain ⟨nx, hnx⟩ : ∃ nx, (wo W2 y).length = nx := ⟨_, rfl⟩
            have HNX := Lib.hid hnx
            have hnxk : nx ≤ nw := by rw [← hnx, ← HN9.out]; exact wo_len W2 y
            clear hnx
            go_wp2_with fail
            refine (t_wo2 HT3.out HN9.out (by omega) y HNX.out).mono ?_
            rintro _ y4 ⟨B4, e4, rfl, _, h2⟩
            have HT4 := Lib.hid (HT3.out.read h2)
            have HY4 := Lib.hid (HY3.out.below h2)
            clear h2 hcell
            by_cases hyW : y ∈ W2
            · have hlt2 : nx < nw := by rw [← HNX.out, ← HN9.out]; exact wo_lt hyW
              have hz3 : ((nx : Int) == (nw : Int)) = false := beq_false_of_ne (by omega)
              clear hlt2 hyW
              go_wp2_with fail
              go_roundw
              case rel => exact ⟨k + 1, Q2, H2, W2, by omega, by go_num, HT4.out, HST2.out, HWR2.out, by rw [HN9.out]; omega⟩
              case measure => simp [intOf]; omega
            · obtain ⟨u, hu1, hu2, hu3⟩ := HFW2.out hyW
              have hz3 : ((nx : Int) == (nw : Int)) = true := beq_iff_eq.2 (by rw [← HNX.out, ← HN9.out, wo_id hyW])
              obtain ⟨hB, hgl2, hcell2⟩ := HY4.out.cell 0 u (by rw [hu1]; rfl)
              subst hB
              have HU := Lib.hid hu2
              have HU3 := Lib.hid hu3
              clear hu1 hu2 hu3 hyW
              go_wp2_with fail
              refine (lw_state HT4.out.lw (by omega) u HU.out 3 HU3.out).mono ?_
              rintro _ y5 ⟨rfl, h1⟩
              have HT5 := Lib.hid (HT4.out.read h1)
              clear h1 hcell2
              go_wp2_with fail
              go_roundw
              case rel => exact ⟨k + 1, Q2, H2, W2, by omega, by go_num, HT5.out, HST2.out, HWR2.out, by rw [HN9.out]; omega⟩
              case measure => simp [intOf]; omega
    · obtain rfl : len = k := by omega
      have HF := Lib.hid hc.bel
      clear hc hlt
      go_wp2
      go_ret
      exact ⟨rfl, HB1.out.trans (HF.out.mono HB1.out.size)⟩
set_option maxHeartbeats 4000000 in
theorem turns_big (w : World) (A : Option Addr) (len cap : Nat) (h : 100 < len) : Calls Try.prog 5 #[.slice A len cap] w fun e w' => e = .returned (.bool true) ∧ Below w.heap.size w w' := by
  have hl2 : (len : Int) > 100 := by omega
  go_enter Try.func5, Try.ntmps5
  go_wp2_with fail
  refine (first_any _).mono ?_
  rintro _ w1 ⟨rfl, hb⟩
  have HB1 := Lib.hid hb
  clear hb
  go_wp2_with fail
  refine (first_any _).mono ?_
  rintro _ w2 ⟨rfl, hb⟩
  have HB2 := Lib.hid hb
  clear hb
  go_wp2
  go_ret
  exact ⟨rfl, HB1.out.trans (HB2.out.mono HB1.out.size)⟩
theorem rwTurns_walk (w : World) (A0 : Option Addr) (len0 cap0 : Nat) (S0 : Sh.ok w (Sh.slice 2 (Sh.agg 2 [(0, 1, (Sh.int .i64)), (1, 1, (Sh.int .i64))])) [.slice A0 len0 cap0]) :
    Calls Try.prog 5 #[.slice A0 len0 cap0] w fun e w' => e = .returned (.bool true) ∧ Below w.heap.size w w' := by
  obtain ⟨b, off, xs, hl, hm, hA⟩ := acts_of S0
  by_cases h : 100 < len0
  · exact turns_big w A0 len0 cap0 h
  · exact turns_in w A0 len0 cap0 b off xs hl hm (by omega) hA
end Go.Proofs.Ytkhlimlcnlalgaa
