/- RegShards: how many shards there are shows in Load alone. -/
import Derived.Test.YtlfjhbfhnlclpaaKb
namespace Go.Proofs.Ytlfjhbfhnlclpaa
open Go.RowKit
open Go.Lib
set_option linter.unusedVariables false
set_option linter.unusedSimpArgs false
set_option maxRecDepth 100000
/-- Two registries that the law has made. -/
structure T2 (w0 w : World) (r1 M1 : Nat) (n1 : Int) (E1 : List (Int × Nat)) (L1 : LN) (c1 : Nat) (r2 M2 : Nat) (n2 : Int) (E2 : List (Int × Nat)) (L2 : LN) (c2 : Nat) : Prop where
  a : Rl w0 w r1 M1 n1 E1 L1 c1
  b : Rl w0 w r2 M2 n2 E2 L2 c2
  d : ∀ j ∈ blocks r2 M2 E2, j ∉ blocks r1 M1 E1
section
variable {w0 w w' : World} {r1 M1 c1 c1' r2 M2 c2 c2' : Nat} {n1 n2 : Int} {E1 E2 : List (Int × Nat)} {L1 L1' L2 L2' : LN}
theorem T2.below (h : T2 w0 w r1 M1 n1 E1 L1 c1 r2 M2 n2 E2 L2 c2) (hb : Below w.heap.size w w') : T2 w0 w' r1 M1 n1 E1 L1 c1 r2 M2 n2 E2 L2 c2 := ⟨h.a.below hb, h.b.below hb, h.d⟩
theorem T2.drewN (h : T2 w0 w r1 M1 n1 E1 L1 c1 r2 M2 n2 E2 L2 c2) (q : Nat) : T2 w0 (w.drewN q) r1 M1 n1 E1 L1 c1 r2 M2 n2 E2 L2 c2 := h.below (below_drewN (Below.refl _ w) q)
theorem T2.left (h : T2 w0 w r1 M1 n1 E1 L1 c1 r2 M2 n2 E2 L2 c2) (k : Went w w' r1 M1 n1 E1 L1' c1') : ∃ E1', T2 w0 w' r1 M1 n1 E1' L1' c1' r2 M2 n2 E2 L2 c2 := by
  obtain ⟨E', h1, h2⟩ := h.a.past k
  obtain ⟨h3, h4⟩ := h.b.off h1.bel h.d h2
  exact ⟨E', h1, h3, h4⟩
theorem T2.right (h : T2 w0 w r1 M1 n1 E1 L1 c1 r2 M2 n2 E2 L2 c2) (k : Went w w' r2 M2 n2 E2 L2' c2') : ∃ E2', T2 w0 w' r1 M1 n1 E1 L1 c1 r2 M2 n2 E2' L2' c2' := by
  obtain ⟨E', h1, h2⟩ := h.b.past k
  obtain ⟨h3, h4⟩ := h.a.off h1.bel (fun j h1 h2 => h.d j h2 h1) h2
  exact ⟨E', h3, h1, fun j k1 k2 => h4 j k2 k1⟩
end
set_option maxHeartbeats 16000000 in
theorem shards_in (w : World) (s : Int) (hs : s ≤ 9223372036854775807) (A : Option Addr) (len cap b off : Nat) (xs : Nat → A3) (hl : len ≤ cap) (hm : cap ≤ maxLen) (hA : Acts w A len b off xs) (b2 : Int) (hb2 : b2 ≤ 9223372036854775807) (px : ByteArray) :
    Calls Try.prog 4 #[.int .i64 s, .int .i64 b2, .slice A len cap, .string px] w fun e w' => e = .returned (.bool true) ∧ Below w.heap.size w w' := by
  have HA := Lib.hid hA
  have HM := Lib.hid hm
  have HLC := Lib.hid hl
  clear hA hm hl
  go_enter Try.func4, Try.ntmps4
  go_wp2_with fail
  refine (first_any _).mono ?_
  rintro _ w1 ⟨rfl, hb⟩
  have HB1 := Lib.hid hb
  have HA1 := Lib.hid (HA.out.keep hb)
  clear hb
  go_wp2_with fail
  refine (light_any w1 s A len cap b off xs HLC.out HM.out HA1.out).mono ?_
  rintro _ wz ⟨⟨bb, rfl, hlt⟩, hw0⟩
  replace hw0 := hw0.symm
  subst hw0
  have HLT := Lib.hid hlt
  clear hlt
  cases bb with
  | false =>
    go_wp2_with fail
    refine (first_any _).mono ?_
    rintro _ w2 ⟨rfl, hb⟩
    have HB2 := Lib.hid hb
    clear hb
    go_wp2
    go_ret
    exact ⟨rfl, HB1.out.trans (HB2.out.mono HB1.out.size)⟩
  | true =>
    obtain ⟨h64, h80, h40⟩ := HLT.out rfl
    have H40 := Lib.hid h40
    clear h40 HLT
    by_cases hg : b2 > 64
    · go_wp2_with fail
      refine (first_any _).mono ?_
      rintro _ w2 ⟨rfl, hb⟩
      have HB2 := Lib.hid hb
      clear hb
      go_wp2
      go_ret
      exact ⟨rfl, HB1.out.trans (HB2.out.mono HB1.out.size)⟩
    have hgN0532 : ¬ b2 > 64 := by exact hg
    have hgH0 := Lib.hid hg
    clear hg
    by_cases hg : (px.size : Int) > 40
    · go_wp2_with fail
      refine (first_any _).mono ?_
      rintro _ w2 ⟨rfl, hb⟩
      have HB2 := Lib.hid hb
      clear hb
      go_wp2
      go_ret
      exact ⟨rfl, HB1.out.trans (HB2.out.mono HB1.out.size)⟩
    have hgN0398 : ¬ (px.size : Int) > 40 := by exact hg
    have hgN1398 : px.size ≤ 40 := by omega
    have hgH1 := Lib.hid hg
    clear hg
    obtain ⟨n1, hn1⟩ : ∃ n1, max s 1 = n1 := ⟨_, rfl⟩
    obtain ⟨n2, hn2⟩ : ∃ n2, max b2 1 = n2 := ⟨_, rfl⟩
    have HN1 := Lib.hid hn1
    have HN2 := Lib.hid hn2
    clear hn1 hn2
    go_wp2_with fail
    refine (new_reg s w1 hs n1 HN1.out).mono ?_
    rintro _ w2 ⟨r1, M1, rfl, h1, hb, hr, hM⟩
    have HR0 := Lib.hid (show Rl w1 w2 r1 M1 n1 [] [] (2 * 0) from ⟨h1, hb, fun j hj => by simp [blocks] at hj; rcases hj with rfl | rfl <;> assumption⟩)
    clear h1 hb hr hM
    go_wp2_with fail
    refine (new_reg b2 w2 hb2 n2 HN2.out).mono ?_
    rintro _ w3 ⟨r2, M2, rfl, h1, hb, hr, hM⟩
    have HT0 := Lib.hid (show T2 w1 w3 r1 M1 n1 [] [] (2 * 0) r2 M2 n2 [] [] (2 * 0) from ⟨HR0.out.below hb, ⟨h1, HR0.out.bel.trans (hb.mono HR0.out.bel.size), fun j hj => by have := HR0.out.bel.size; simp [blocks] at hj; rcases hj with rfl | rfl <;> omega⟩, fun j hj e => by have := HR0.out.rg.lts j e; simp [blocks] at hj; rcases hj with rfl | rfl <;> omega⟩)
    clear h1 hb hr hM
    go_wp2_with fail
    go_loopw [11] (fun i wr => ∃ (k : Nat) (E1 E2 : List (Int × Nat)) (L : LN), k ≤ len ∧ i = .int .i64 (k : Int) ∧ T2 w1 wr r1 M1 n1 E1 L (2 * k) r2 M2 n2 E2 L (2 * k)) (fun i _ => len - (intOf i).toNat)
    case atStart => exact ⟨0, [], [], [], Nat.zero_le _, rfl, HT0.out⟩
    case round =>
      obtain ⟨k, E1, E2, L, hk, rfl, hc⟩ := hrel
      have HC := Lib.hid hc
      clear hc
      by_cases hlt : k < len
      · obtain ⟨d0, d1, d2, _⟩ := (HA1.out.keep HC.out.a.bel).2 k hlt
        obtain rfl := (HA1.out.1 (by omega)).1
        have HX := Lib.hid (fun w' (h : Below w1.heap.size w1 w') => (HA1.out.keep h).2 k hlt)
        have hltI : (k : Int) < (len : Int) := by omega
        have H40k := Lib.hid (H40.out k hlt)
        obtain ⟨op, hop⟩ : ∃ op, (xs k).1 = op := ⟨_, rfl⟩
        obtain ⟨kk, hkk⟩ : ∃ kk, (xs k).2.1 = kk := ⟨_, rfl⟩
        obtain ⟨idd, hid⟩ : ∃ idd, (xs k).2.2 = idd := ⟨_, rfl⟩
        rw [hop, hkk, hid] at HX
        rw [hop] at d0
        rw [hkk] at d1 H40k
        rw [hid] at d2
        obtain ⟨⟨ok, L'⟩, hso⟩ : ∃ p, stepO op kk idd L = p := ⟨_, rfl⟩
        have HSO := Lib.hid hso
        obtain ⟨v, hv⟩ : ∃ v, findO kk L' = v := ⟨_, rfl⟩
        have HV := Lib.hid hv
        have c0d : wr.drew.cell? ⟨b, off + k * 3, none⟩ = some (.int .i64 op) := d0
        have c1d : wr.drew.cell? ⟨b, off + k * 3 + 1, none⟩ = some (.string kk) := d1
        have c2d : wr.drew.cell? ⟨b, off + k * 3 + 2, none⟩ = some (.int .i64 idd) := d2
        have H0 := Lib.hid (show T2 w1 wr.drew r1 M1 n1 E1 L (2 * k) r2 M2 n2 E2 L (2 * k) from HC.out.below ((Below.refl _ wr).drew))
        have HS1 := Lib.hid (step_any H0.out.a.rg (by omega) op idd kk H40k.out ok L' hso)
        have hokk : (ok != ok) = false := by simp
        have hvv : (v != v) = false := by simp
        clear hso hop hkk hid hv d0 d1 d2
        go_wp2_with fail
        go_region_held3 (fun w' => w'.cell? ⟨b, off + k * 3, none⟩ = some (.int .i64 op) ∧ w'.cell? ⟨b, off + k * 3 + 1, none⟩ = some (.string kk) ∧ w'.cell? ⟨b, off + k * 3 + 2, none⟩ = some (.int .i64 idd)) (first | exact ⟨c0d, c1d, c2d⟩ | exact e1) (first
          | (go_at_call 15
             (with_reducible refine (HS2.out).mono ?_)
             rintro _ w5 ⟨rfl, h5⟩
             obtain ⟨E2', h5⟩ := H4.out.right h5
             have H5 := Lib.hid h5
             have HF1 := Lib.hid (find_any H5.out.a.rg kk (by have := H40k.out; omega) v HV.out)
             have e1 := HX.out _ H5.out.a.bel
             have e1 := (⟨e1.1, e1.2.1, e1.2.2.1⟩ : _ ∧ _ ∧ _)
             clear h5)
          | (go_at_call 15
             (with_reducible refine (HS1.out).mono ?_)
             rintro _ w4 ⟨rfl, h4⟩
             obtain ⟨E1', h4⟩ := H0.out.left h4
             have H4 := Lib.hid h4
             have HS2 := Lib.hid (step_any H4.out.b.rg (by omega) op idd kk H40k.out ok L' HSO.out)
             have e1 := HX.out _ H4.out.a.bel
             have e1 := (⟨e1.1, e1.2.1, e1.2.2.1⟩ : _ ∧ _ ∧ _)
             clear h4)
          | (go_at_call 16
             (with_reducible refine (HF2.out).mono ?_)
             rintro _ w7 ⟨rfl, rfl⟩
             have H7 := Lib.hid (H5.out.drewN 2)
             have HL1 := Lib.hid (len_reg H7.out.a.rg (by omega) _ rfl)
             have e1 := HX.out _ H7.out.a.bel
             have e1 := (⟨e1.1, e1.2.1, e1.2.2.1⟩ : _ ∧ _ ∧ _))
          | (go_at_call 16
             (with_reducible refine (HF1.out).mono ?_)
             rintro _ w6 ⟨rfl, rfl⟩
             have H6 := Lib.hid (H5.out.drewN 1)
             have HF2 := Lib.hid (find_any H6.out.b.rg kk (by have := H40k.out; omega) v HV.out)
             have e1 := HX.out _ H6.out.a.bel
             have e1 := (⟨e1.1, e1.2.1, e1.2.2.1⟩ : _ ∧ _ ∧ _))
          | (go_at_call 17
             (with_reducible refine (HL2.out).mono ?_)
             rintro _ w9 ⟨rfl, hb⟩
             have H9 := Lib.hid (H8.out.below hb)
             have e1 := HX.out _ H9.out.a.bel
             have e1 := (⟨e1.1, e1.2.1, e1.2.2.1⟩ : _ ∧ _ ∧ _)
             clear hb)
          | (go_at_call 17
             (with_reducible refine (HL1.out).mono ?_)
             rintro _ w8 ⟨rfl, hb⟩
             have H8 := Lib.hid (H7.out.below hb)
             have HL2 := Lib.hid (len_reg H8.out.b.rg (by omega) _ rfl)
             have e1 := HX.out _ H8.out.a.bel
             have e1 := (⟨e1.1, e1.2.1, e1.2.2.1⟩ : _ ∧ _ ∧ _)
             clear hb)
          | fail)
        all_goals (
          go_wp2_with fail
          go_roundw
          case rel => exact ⟨k + 1, _, _, _, by omega, by go_num, H9.out⟩
          case measure => simp [intOf]; omega)
      · obtain rfl : k = len := by omega
        have hltI : ¬ (k : Int) < (k : Int) := by omega
        have HLL := Lib.hid HC.out.a.rg.ll
        clear hlt hk
        obtain ⟨P, hP⟩ : ∃ P, L.filter (pre px) = P := ⟨_, rfl⟩
        obtain ⟨m, hm⟩ : ∃ m, P.length = m := ⟨_, rfl⟩
        have hm160 : m ≤ 160 := by have := HLL.out; have := List.length_filter_le (pre px) L; rw [hP] at this; omega
        have HP := Lib.hid hP
        have HM := Lib.hid hm
        clear hP hm
        go_wp2_with fail
        refine (under_rq HC.out.a (by omega) px (by omega) (keysL P) (by rw [HP.out]) m (by rw [keysL_len, HM.out])).mono ?_
        rintro _ w4 ⟨X, capX, gX, rfl, h3, hb, _⟩
        have H4 := Lib.hid h3
        have HC4 := Lib.hid (HC.out.below hb)
        clear h3 hb
        go_wp2_with fail
        refine (under_rq HC4.out.b (by omega) px (by omega) (keysL P) (by rw [HP.out]) m (by rw [keysL_len, HM.out])).mono ?_
        rintro _ w5 ⟨Y, capY, gY, rfl, h3, hb, _⟩
        have H5 := Lib.hid (show Sl w5 X capX gX (keysL P) ∧ Rq w1 w5 r2 M2 n2 E2 L _ Y capY gY (keysL P) from ⟨H4.out.sl.below hb, h3⟩)
        clear h3 hb
        go_wp2_with fail
        refine Calls.mono (by have := texts_same H5.out.1 H5.out.2.sl (by rw [keysL_len, HM.out]; omega); rwa [keysL_len, HM.out] at this) ?_
        rintro _ w6 ⟨rfl, hb⟩
        have H6 := Lib.hid (H5.out.2.rl.bel.trans (hb.mono H5.out.2.rl.bel.size))
        clear hb
        go_wp2
        go_ret
        exact ⟨rfl, HB1.out.trans (H6.out.mono HB1.out.size)⟩
theorem regShards_walk (w : World) (a0 : Int) (w0 : (Lit.int .i64 a0).wf = true) (a1 : Int) (w1 : (Lit.int .i64 a1).wf = true) (A2 : Option Addr) (len2 cap2 : Nat) (S2 : Sh.ok w (Sh.slice 3 (Sh.agg 3 [(0, 1, (Sh.int .i64)), (1, 1, Sh.str), (2, 1, (Sh.int .i64))])) [.slice A2 len2 cap2]) (a3 : ByteArray) (w3 : a3.size ≤ maxLen) :
    Calls Try.prog 4 #[.int .i64 a0, .int .i64 a1, .slice A2 len2 cap2, .string a3] w fun e w' => e = .returned (.bool true) ∧ Below w.heap.size w w' := by
  obtain ⟨b, off, xs, hl, hm, hA⟩ := acts_of S2
  exact shards_in w a0 (wf_i64 w0).2 A2 len2 cap2 b off xs hl hm hA a1 (wf_i64 w1).2 a3
end Go.Proofs.Ytlfjhbfhnlclpaa
