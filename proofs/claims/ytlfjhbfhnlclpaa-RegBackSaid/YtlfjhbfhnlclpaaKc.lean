/- RegBack: a key that is added, and removed. -/
import Derived.Test.YtlfjhbfhnlclpaaKb
namespace Go.Proofs.Ytlfjhbfhnlclpaa
open Go.RowKit
open Go.Lib
set_option linter.unusedVariables false
set_option linter.unusedSimpArgs false
set_option maxRecDepth 100000
set_option maxHeartbeats 16000000 in
theorem back_in (w : World) (s : Int) (hs : s ≤ 9223372036854775807) (A : Option Addr) (len cap b off : Nat) (xs : Nat → A3) (hl : len ≤ cap) (hm : cap ≤ maxLen) (hA : Acts w A len b off xs) (key : ByteArray) (id other : Int) :
    Calls Try.prog 7 #[.int .i64 s, .slice A len cap, .string key, .int .i64 id, .int .i64 other] w fun e w' => e = .returned (.bool true) ∧ Below w.heap.size w w' := by
  have HA := Lib.hid hA
  have HM := Lib.hid hm
  have HLC := Lib.hid hl
  clear hA hm hl
  go_enter Try.func7, Try.ntmps7
  go_wp2_with fail
  refine (first_any _).mono ?_
  rintro _ w1 ⟨rfl, hb⟩
  have HB1 := Lib.hid hb
  have HA1 := Lib.hid (HA.out.keep hb)
  clear hb
  go_wp2_with fail
  refine (light_any w1 s A len cap b off xs HLC.out HM.out HA1.out).mono ?_
  rintro _ wz ⟨⟨bb, rfl, hlt⟩, hw0⟩
  replace hw0 := hw0.symm
  subst hw0
  have HLT := Lib.hid hlt
  clear hlt
  cases bb with
  | false =>
    go_wp2_with fail
    refine (first_any _).mono ?_
    rintro _ w2 ⟨rfl, hb⟩
    have HB2 := Lib.hid hb
    clear hb
    go_wp2
    go_ret
    exact ⟨rfl, HB1.out.trans (HB2.out.mono HB1.out.size)⟩
  | true =>
    obtain ⟨h64, h80, h40⟩ := HLT.out rfl
    have H40 := Lib.hid h40
    clear h40 HLT
    by_cases hg : (key.size : Int) > 40
    · go_wp2_with fail
      refine (first_any _).mono ?_
      rintro _ w2 ⟨rfl, hb⟩
      have HB2 := Lib.hid hb
      clear hb
      go_wp2
      go_ret
      exact ⟨rfl, HB1.out.trans (HB2.out.mono HB1.out.size)⟩
    have hgN0823 : ¬ (key.size : Int) > 40 := by exact hg
    have hgN1823 : key.size ≤ 40 := by omega
    have hgH0 := Lib.hid hg
    clear hg
    by_cases hg : id < 0
    · go_wp2_with fail
      refine (first_any _).mono ?_
      rintro _ w2 ⟨rfl, hb⟩
      have HB2 := Lib.hid hb
      clear hb
      go_wp2
      go_ret
      exact ⟨rfl, HB1.out.trans (HB2.out.mono HB1.out.size)⟩
    have hgN0430 : ¬ id < 0 := by exact hg
    have hgH1 := Lib.hid hg
    clear hg
    by_cases hg : other = id
    · have hgI0 : (other == id) = true := by simpa using hg
      go_wp2_with fail
      refine (first_any _).mono ?_
      rintro _ w2 ⟨rfl, hb⟩
      have HB2 := Lib.hid hb
      clear hb
      go_wp2
      go_ret
      exact ⟨rfl, HB1.out.trans (HB2.out.mono HB1.out.size)⟩
    have hgN0595 : (other == id) = false := by simpa using hg
    have hgH2 := Lib.hid hg
    clear hg
    obtain ⟨n, hn⟩ : ∃ n, max s 1 = n := ⟨_, rfl⟩
    have HN := Lib.hid hn
    go_wp2_with fail
    refine (new_reg s w1 hs n hn).mono ?_
    rintro _ w2 ⟨r, M, rfl, h1, hb, hr, hM⟩
    have HR0 := Lib.hid (show Rl w1 w2 r M n [] [] (2 * 0) from ⟨h1, hb, fun j hj => by simp [blocks] at hj; rcases hj with rfl | rfl <;> assumption⟩)
    clear h1 hb hr hM hn
    go_wp2_with fail
    go_loopw [12] (fun i wr => ∃ (k : Nat) (E : List (Int × Nat)) (L : LN), k ≤ len ∧ i = .int .i64 (k : Int) ∧ Rl w1 wr r M n E L (2 * k)) (fun i _ => len - (intOf i).toNat)
    case atStart => exact ⟨0, [], [], Nat.zero_le _, rfl, HR0.out⟩
    case round =>
      obtain ⟨k, E, L, hk, rfl, hc⟩ := hrel
      have HC := Lib.hid hc
      clear hc
      by_cases hlt : k < len
      · obtain ⟨d0, d1, d2, _⟩ := (HA1.out.keep HC.out.bel).2 k hlt
        obtain rfl := (HA1.out.1 (by omega)).1
        have hltI : (k : Int) < (len : Int) := by omega
        have H40k := Lib.hid (H40.out k hlt)
        obtain ⟨op, hop⟩ : ∃ op, (xs k).1 = op := ⟨_, rfl⟩
        obtain ⟨kk, hkk⟩ : ∃ kk, (xs k).2.1 = kk := ⟨_, rfl⟩
        obtain ⟨idd, hid⟩ : ∃ idd, (xs k).2.2 = idd := ⟨_, rfl⟩
        rw [hop] at d0
        rw [hkk] at d1 H40k
        rw [hid] at d2
        obtain ⟨⟨ok, L'⟩, hso⟩ : ∃ p, stepO op kk idd L = p := ⟨_, rfl⟩
        have HS := Lib.hid (step_any HC.out.rg (by omega) op idd kk H40k.out ok L' hso)
        clear hso hop hkk hid
        go_wp2_with fail
        refine HS.out.mono ?_
        rintro _ w3 ⟨rfl, h3⟩
        obtain ⟨E', h3⟩ := HC.out.went h3
        have H3 := Lib.hid h3
        clear h3
        go_wp2
        go_roundw
        case rel => exact ⟨k + 1, E', L', by omega, by go_num, H3.out⟩
        case measure => simp [intOf]; omega
      · obtain rfl : k = len := by omega
        have hltI : ¬ (k : Int) < (k : Int) := by omega
        have hc160 : 2 * k ≤ 160 := by omega
        have HLL := Lib.hid HC.out.rg.ll
        clear hlt hk
        go_wp2_with fail
        refine (under_rq HC.out (by omega) ⟨#[]⟩ (by decide) (keysL L) (by rw [all_pre]) L.length (keysL_len L)).mono ?_
        rintro _ w3 ⟨X, capX, gX, rfl, h3, _, _⟩
        have H3 := Lib.hid h3
        clear h3
        obtain ⟨v, hv⟩ : ∃ v, findO key L = v := ⟨_, rfl⟩
        have HV := Lib.hid hv
        go_wp2_with fail
        refine (rq_find H3.out key (by omega) v hv).mono ?_
        rintro _ w4 ⟨rfl, h4⟩
        have H4 := Lib.hid h4
        clear h4 hv
        by_cases hv0 : v < 0
        · obtain ⟨hg0, hgm⟩ := findO_none H3.out.rl.rg.pos (HV.out ▸ hv0)
          obtain rfl : v = -1 := by rw [← HV.out]; exact hgm
          have HG0 := Lib.hid hg0
          have HS := Lib.hid H3.out.rl.rg.srt
          obtain ⟨L2, hL2⟩ : ∃ L2, insL key id L = L2 := ⟨_, rfl⟩
          have HL2 := Lib.hid hL2
          have hid2 : getL key L2 = some id := by rw [← hL2, getL_ins HS.out, if_pos rfl]
          have HID := Lib.hid hid2
          have hlen2 : L2.length = L.length + 1 := by rw [← hL2, insL_len HS.out, hg0]; rfl
          have hf2 : findO key L2 = id := by unfold findO; rw [hid2]; rfl
          have hr1 : remO key id L = (false, L) := by unfold remO; rw [if_pos (.inr (by rw [HV.out]; omega))]
          have ha1 : addO key (-1) L = (false, L) := by unfold addO; rw [if_pos (.inl (by decide))]
          have ha2 : addO key id L = (true, L2) := by unfold addO; rw [if_neg (by rw [hg0]; simp; omega), hL2]
          have ha3 : addO key other L2 = (false, L2) := by unfold addO; rw [if_pos (.inr (by rw [hid2]; rfl))]
          have hr2 : remO key other L2 = (false, L2) := by unfold remO; rw [if_pos (.inr (by rw [hf2]; exact fun e => hgH2.out e.symm))]
          have hr3 : remO key id L2 = (true, L) := by
            unfold remO; rw [if_neg (by rw [hf2]; simp; omega), ← hL2, del_ins hg0 HS.out]
          have hv0b : ¬ (-1 : Int) ≥ 0 := by decide
          have C1 := Lib.hid hr1
          have C2 := Lib.hid ha1
          have C3 := Lib.hid ha2
          have C4 := Lib.hid hf2
          have C5 := Lib.hid ha3
          have C6 := Lib.hid hr2
          have C7 := Lib.hid hlen2
          have C8 := Lib.hid hr3
          clear hr1 ha1 ha2 hf2 ha3 hr2 hlen2 hr3 hid2 hL2 hg0 hgm
          go_wp2_with fail
          refine (rq_rem H4.out (by omega) key (by omega) id _ _ C1.out).mono ?_
          rintro _ w5 ⟨rfl, E5, h5⟩
          have H5 := Lib.hid h5
          clear h5
          go_wp2_with fail
          refine (rq_add H5.out (by omega) key (by omega) (-1) _ _ C2.out).mono ?_
          rintro _ w6 ⟨rfl, E6, h5⟩
          have H6 := Lib.hid h5
          clear h5
          go_wp2_with fail
          refine (rq_add H6.out (by omega) key (by omega) id _ _ C3.out).mono ?_
          rintro _ w7 ⟨rfl, E7, h5⟩
          have H7 := Lib.hid h5
          clear h5
          go_wp2_with fail
          refine (rq_find H7.out key (by omega) _ C4.out).mono ?_
          rintro _ w8 ⟨rfl, h5⟩
          have H8 := Lib.hid h5
          clear h5
          have hne : (id != id) = false := by simp
          go_wp2_with fail
          refine (rq_add H8.out (by omega) key (by omega) other _ _ C5.out).mono ?_
          rintro _ w9 ⟨rfl, E9, h5⟩
          have H9 := Lib.hid h5
          clear h5
          go_wp2_with fail
          refine (rq_rem H9.out (by omega) key (by omega) other _ _ C6.out).mono ?_
          rintro _ wa ⟨rfl, Ea, h5⟩
          have Ha := Lib.hid h5
          clear h5
          go_wp2_with fail
          refine (rq_find Ha.out key (by omega) _ C4.out).mono ?_
          rintro _ wb ⟨rfl, h5⟩
          have Hb := Lib.hid h5
          clear h5
          go_wp2_with fail
          refine (len_reg Hb.out.rl.rg (by omega) (L.length + 1) C7.out).mono ?_
          rintro _ wc ⟨rfl, h5⟩
          have Hc := Lib.hid (Hb.out.below h5)
          clear h5
          have hln : L.length ≤ 160 := by have := HLL.out; omega
          have hw : wrap64 ((L.length : Int) + 1) = (L.length : Int) + 1 := IntWalk.wrap64_in _ (by omega)
          have hnn : ((L.length + 1 : Nat) : Int) = (L.length : Int) + 1 := by omega
          have hne2 : (((L.length : Int) + 1) != ((L.length : Int) + 1)) = false := by simp
          rw [hnn]
          go_wp2_with fail
          refine (rq_rem Hc.out (by omega) key (by omega) id _ _ C8.out).mono ?_
          rintro _ wd ⟨rfl, Ed, h5⟩
          have Hd := Lib.hid h5
          clear h5
          go_wp2_with fail
          refine (rq_find Hd.out key (by omega) _ HV.out).mono ?_
          rintro _ we ⟨rfl, h5⟩
          have He := Lib.hid h5
          clear h5
          have hee : ((-1 : Int) == -1) = true := by decide
          go_wp2_with fail
          refine (under_rq He.out.rl (by omega) ⟨#[]⟩ (by decide) (keysL L) (by rw [all_pre]) L.length (keysL_len L)).mono ?_
          rintro _ wf ⟨Y, capY, gY, rfl, h3, hb, _⟩
          have Hf := Lib.hid (show Sl wf X capX gX (keysL L) ∧ Rq w1 wf r M n Ed L _ Y capY gY (keysL L) from ⟨He.out.sl.below hb, h3⟩)
          clear h3 hb
          go_wp2_with fail
          refine Calls.mono (by have := texts_same Hf.out.2.sl Hf.out.1 (by rw [keysL_len]; omega); rwa [keysL_len] at this) ?_
          rintro _ wg ⟨rfl, hb⟩
          have Hg := Lib.hid (Hf.out.2.rl.bel.trans (hb.mono Hf.out.2.rl.bel.size))
          clear hb
          go_wp2
          go_ret
          exact ⟨rfl, HB1.out.trans (Hg.out.mono HB1.out.size)⟩
        · have hv1 : v ≥ 0 := by omega
          have ha1 : addO key id L = (false, L) := by unfold addO; rw [if_pos (.inr (findO_some (HV.out ▸ hv1)))]
          have C1 := Lib.hid ha1
          clear ha1
          have hln : L.length ≤ 160 := by have := HLL.out; omega
          go_wp2_with fail
          refine (rq_add H4.out (by omega) key (by omega) id _ _ C1.out).mono ?_
          rintro _ w6 ⟨rfl, E6, h5⟩
          have H6 := Lib.hid h5
          clear h5
          go_wp2_with fail
          refine (under_rq H6.out.rl (by omega) ⟨#[]⟩ (by decide) (keysL L) (by rw [all_pre]) L.length (keysL_len L)).mono ?_
          rintro _ wf ⟨Y, capY, gY, rfl, h3, hb, _⟩
          have Hf := Lib.hid (show Sl wf X capX gX (keysL L) ∧ Rq w1 wf r M n E6 L _ Y capY gY (keysL L) from ⟨H6.out.sl.below hb, h3⟩)
          clear h3 hb
          go_wp2_with fail
          refine Calls.mono (by have := texts_same Hf.out.2.sl Hf.out.1 (by rw [keysL_len]; omega); rwa [keysL_len] at this) ?_
          rintro _ wg ⟨rfl, hb⟩
          have Hg := Lib.hid (Hf.out.2.rl.bel.trans (hb.mono Hf.out.2.rl.bel.size))
          clear hb
          go_wp2
          go_ret
          exact ⟨rfl, HB1.out.trans (Hg.out.mono HB1.out.size)⟩
theorem regBack_walk (w : World) (a0 : Int) (w0 : (Lit.int .i64 a0).wf = true) (A1 : Option Addr) (len1 cap1 : Nat) (S1 : Sh.ok w (Sh.slice 3 (Sh.agg 3 [(0, 1, (Sh.int .i64)), (1, 1, Sh.str), (2, 1, (Sh.int .i64))])) [.slice A1 len1 cap1]) (a2 : ByteArray) (w2 : a2.size ≤ maxLen) (a3 : Int) (w3 : (Lit.int .i64 a3).wf = true) (a4 : Int) (w4 : (Lit.int .i64 a4).wf = true) :
    Calls Try.prog 7 #[.int .i64 a0, .slice A1 len1 cap1, .string a2, .int .i64 a3, .int .i64 a4] w fun e w' => e = .returned (.bool true) ∧ Below w.heap.size w w' := by
  obtain ⟨b, off, xs, hl, hm, hA⟩ := acts_of S1
  exact back_in w a0 (wf_i64 w0).2 A1 len1 cap1 b off xs hl hm hA a2 a3 a4
end Go.Proofs.Ytlfjhbfhnlclpaa
