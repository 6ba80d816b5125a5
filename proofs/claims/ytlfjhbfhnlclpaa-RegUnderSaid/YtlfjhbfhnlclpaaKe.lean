/- RegUnder: under a text are just those keys that begin with it and are found. -/
import Derived.Test.YtlfjhbfhnlclpaaKb
namespace Go.Proofs.Ytlfjhbfhnlclpaa
open Go.RowKit
open Go.Lib
set_option linter.unusedVariables false
set_option linter.unusedSimpArgs false
set_option maxRecDepth 100000
theorem row9_set {w : World} {B g n cap : Nat} {vs : List Value} (h : w.ownsRow B 9 1 (.slice (some ⟨g, 0, none⟩) n cap) n vs) (j : Nat) (u : Value) : (w.setCell ⟨g, j, none⟩ u).ownsRow B 9 1 (.slice (some ⟨g, 0, none⟩) n cap) n (vs.set j u) := by
  obtain ⟨h0, ⟨h3, _⟩ | ⟨b, c, cur, e1, e2, e3, e4, e5, e6, e7⟩⟩ := h
  · cases h3
  · injection e1 with e1a _ e1c
    injection e1a with e1b
    injection e1b with e1d
    subst e1d e1c
    refine ⟨by rw [List.length_set]; exact h0, .inr ⟨g, cap, cur.setIfInBounds j u, rfl, e2, by simp [World.setCell, Array.getElem?_modify, e3], e4, e5, by rw [Array.size_setIfInBounds]; exact e6, ?_⟩⟩
    rw [Array.toList_setIfInBounds, List.take_set, e7]
theorem row9_at {w : World} {B n cap : Nat} {A : Option Addr} {vs : List Value} (h : w.ownsRow B 9 1 (.slice A n cap) n vs) {j : Nat} (hj : j < n) : ∃ g u, A = some ⟨g, 0, none⟩ ∧ B ≤ g ∧ w.cell? ⟨g, j, none⟩ = some u ∧ w.frozen? ⟨g, j, none⟩ = false := by
  obtain ⟨h0, ⟨h3, h4⟩ | ⟨b, c, cur, e1, e2, e3, e4, e5, e6, e7⟩⟩ := h
  · omega
  · injection e1 with e1a _ e1c
    have hjs : j < cur.size := by
      have : vs.length = n := by omega
      have h8 : (cur.toList.take (n * 1)).length = n := by rw [e7]; exact this
      rw [List.length_take] at h8
      simp at h8
      omega
    refine ⟨b, cur[j], e1a, e2, ?_, by simp [World.frozen?, e3]⟩
    rw [cell_of_row w b j cur 9 (0, 0) e3]
    exact Array.getElem?_eq_getElem hjs
theorem row9_keep {W w2 : World} {B : Nat} {v : Value} {n : Nat} {vs : List Value} (h : W.ownsRow B 9 1 v n vs) (hb : ∀ j, v.ownBlock = some j → w2.heap[j]? = W.heap[j]?) : w2.ownsRow B 9 1 v n vs := by
  obtain ⟨h0, h3 | ⟨b, cap, cur, e1, e2, e3, e4⟩⟩ := h
  · exact ⟨h0, .inl h3⟩
  · exact ⟨h0, .inr ⟨b, cap, cur, e1, e2, (hb b (by rw [e1]; rfl)).trans e3, e4⟩⟩
theorem row9_lt {W : World} {B : Nat} {v : Value} {n : Nat} {vs : List Value} (h : W.ownsRow B 9 1 v n vs) {j : Nat} (hj : v.ownBlock = some j) : j < W.heap.size := by
  obtain ⟨h0, ⟨rfl, e⟩ | ⟨b, cap, cur, rfl, e2, e3, e4⟩⟩ := h
  · cases hj
  · cases hj
    exact (Array.getElem?_eq_some_iff.1 e3).1
theorem srt_lt {L : LN} (h : Srt L) {i j : Nat} {p q : ByteArray × Int} (hi : L[i]? = some p) (hj : L[j]? = some q) (hij : i < j) : klt p.1 q.1 = true := by
  obtain ⟨l1, e1⟩ := List.getElem?_eq_some_iff.1 hi
  obtain ⟨l2, e2⟩ := List.getElem?_eq_some_iff.1 hj
  have := List.pairwise_iff_getElem.1 h i j l1 l2 hij
  rwa [e1, e2] at this
def anyK (k : ByteArray) (K : List ByteArray) (j : Nat) : Bool := (K.take j).any fun y => y.toList == k.toList
theorem anyK_step {k x : ByteArray} {K : List ByteArray} {j : Nat} (h : K[j]? = some x) : anyK k K (j + 1) = (anyK k K j || (x.toList == k.toList)) := by
  unfold anyK
  rw [List.take_add_one, h, List.any_append]
  simp
theorem anyK_all {k px : ByteArray} {L : LN} (hs : Srt L) (hp : ∀ q ∈ L, 0 ≤ q.2) (v : Int) (hv : findO k L = v) : anyK k (keysL (L.filter (pre px))) (keysL (L.filter (pre px))).length = (decide (0 ≤ v) && preB px k) := by
  unfold anyK
  rw [List.take_length]
  rw [Bool.eq_iff_iff]
  simp only [List.any_eq_true, Bool.and_eq_true, decide_eq_true_iff]
  constructor
  · rintro ⟨y, hy, e⟩
    rw [keq] at e
    obtain rfl := of_decide_eq_true e
    unfold keysL at hy
    obtain ⟨p, hp1, rfl⟩ := List.mem_map.1 hy
    obtain ⟨h1, h2⟩ := List.mem_filter.1 hp1
    have hg := getL_of hs (show (p.1, p.2) ∈ L from h1)
    unfold findO at hv
    rw [hg] at hv
    have := hp p h1
    refine ⟨?_, h2⟩
    rw [← hv]
    exact this
  · rintro ⟨h1, h2⟩
    have := findO_some (hv ▸ h1)
    obtain ⟨p, hp1, rfl⟩ := (getL_isSome hs).1 this
    exact ⟨p.1, List.mem_map.2 ⟨p, List.mem_filter.2 ⟨hp1, h2⟩, rfl⟩, by simp⟩
theorem preB_ff {px k : ByteArray} (h : ¬ px.size ≤ k.size) : preB px k = false := by unfold preB; rw [decide_eq_false h]; rfl
theorem preB_tt {px k : ByteArray} (h : px.size ≤ k.size) : preB px k = ((k.extract 0 px.size).toList == px.toList) := by unfold preB; rw [decide_eq_true h]; rfl
set_option maxHeartbeats 16000000 in
theorem under_in (w : World) (s : Int) (hs : s ≤ 9223372036854775807) (A : Option Addr) (len cap b off : Nat) (xs : Nat → A3) (hl : len ≤ cap) (hm : cap ≤ maxLen) (hA : Acts w A len b off xs) (px : ByteArray) :
    Calls Try.prog 6 #[.int .i64 s, .slice A len cap, .string px] w fun e w' => e = .returned (.bool true) ∧ Below w.heap.size w w' := by
  have HA := Lib.hid hA
  have HM := Lib.hid hm
  have HLC := Lib.hid hl
  clear hA hm hl
  go_enter Try.func6, Try.ntmps6
  go_wp2_with fail
  refine (first_any _).mono ?_
  rintro _ w1 ⟨rfl, hb⟩
  have HB1 := Lib.hid hb
  have HA1 := Lib.hid (HA.out.keep hb)
  clear hb
  go_wp2_with fail
  refine (light_any w1 s A len cap b off xs HLC.out HM.out HA1.out).mono ?_
  rintro _ wz ⟨⟨bb, rfl, hlt⟩, hw0⟩
  replace hw0 := hw0.symm
  subst hw0
  have HLT := Lib.hid hlt
  clear hlt
  cases bb with
  | false =>
    go_wp2_with fail
    refine (first_any _).mono ?_
    rintro _ w2 ⟨rfl, hb⟩
    have HB2 := Lib.hid hb
    clear hb
    go_wp2
    go_ret
    exact ⟨rfl, HB1.out.trans (HB2.out.mono HB1.out.size)⟩
  | true =>
    obtain ⟨h64, h80, h40⟩ := HLT.out rfl
    have H40 := Lib.hid h40
    clear h40 HLT
    by_cases hg : (px.size : Int) > 40
    · go_wp2_with fail
      refine (first_any _).mono ?_
      rintro _ w2 ⟨rfl, hb⟩
      have HB2 := Lib.hid hb
      clear hb
      go_wp2
      go_ret
      exact ⟨rfl, HB1.out.trans (HB2.out.mono HB1.out.size)⟩
    have hgN0506 : ¬ (px.size : Int) > 40 := by exact hg
    have hgN1506 : px.size ≤ 40 := by omega
    have hgH0 := Lib.hid hg
    clear hg
    obtain ⟨n, hn⟩ : ∃ n, max s 1 = n := ⟨_, rfl⟩
    have HN := Lib.hid hn
    go_wp2_with fail
    refine (new_reg s w1 hs n hn).mono ?_
    rintro _ w2 ⟨r, M, rfl, h1, hb, hr, hM⟩
    have HR0 := Lib.hid (show Rl w1 w2 r M n [] [] (2 * 0) from ⟨h1, hb, fun j hj => by simp [blocks] at hj; rcases hj with rfl | rfl <;> assumption⟩)
    clear h1 hb hr hM hn
    go_wp2_with fail
    go_loopw [8] (fun i wr => ∃ (k : Nat) (E : List (Int × Nat)) (L : LN), k ≤ len ∧ i = .int .i64 (k : Int) ∧ Rl w1 wr r M n E L (2 * k)) (fun i _ => len - (intOf i).toNat)
    case atStart => exact ⟨0, [], [], Nat.zero_le _, rfl, HR0.out⟩
    case round =>
      obtain ⟨k, E, L, hk, rfl, hc⟩ := hrel
      have HC := Lib.hid hc
      clear hc
      by_cases hlt : k < len
      · obtain ⟨d0, d1, d2, _⟩ := (HA1.out.keep HC.out.bel).2 k hlt
        obtain rfl := (HA1.out.1 (by omega)).1
        have hltI : (k : Int) < (len : Int) := by omega
        have H40k := Lib.hid (H40.out k hlt)
        obtain ⟨op, hop⟩ : ∃ op, (xs k).1 = op := ⟨_, rfl⟩
        obtain ⟨kk, hkk⟩ : ∃ kk, (xs k).2.1 = kk := ⟨_, rfl⟩
        obtain ⟨idd, hid⟩ : ∃ idd, (xs k).2.2 = idd := ⟨_, rfl⟩
        rw [hop] at d0
        rw [hkk] at d1 H40k
        rw [hid] at d2
        obtain ⟨⟨ok, L'⟩, hso⟩ : ∃ p, stepO op kk idd L = p := ⟨_, rfl⟩
        have HS := Lib.hid (step_any HC.out.rg (by omega) op idd kk H40k.out ok L' hso)
        clear hso hop hkk hid
        go_wp2_with fail
        refine HS.out.mono ?_
        rintro _ w3 ⟨rfl, h3⟩
        obtain ⟨E', h3⟩ := HC.out.went h3
        have H3 := Lib.hid h3
        clear h3
        go_wp2
        go_roundw
        case rel => exact ⟨k + 1, E', L', by omega, by go_num, H3.out⟩
        case measure => simp [intOf]; omega
      · obtain rfl : k = len := by omega
        have hltI : ¬ (k : Int) < (k : Int) := by omega
        have hc160 : 2 * k ≤ 160 := by omega
        have HLL := Lib.hid HC.out.rg.ll
        clear hlt hk
        obtain ⟨P, hP⟩ : ∃ P, L.filter (pre px) = P := ⟨_, rfl⟩
        obtain ⟨m, hm⟩ : ∃ m, P.length = m := ⟨_, rfl⟩
        have hm160 : m ≤ 160 := by have := HLL.out; have := List.length_filter_le (pre px) L; rw [hP] at this; omega
        have hPs : Srt P := by rw [← hP]; exact HC.out.rg.srt.sublist List.filter_sublist
        have HPS := Lib.hid hPs
        have HP := Lib.hid hP
        have HM := Lib.hid hm
        have hmI : (m : Int) ≤ 160 := by omega
        clear hP hm hPs
        go_wp2_with fail
        refine (under_rq HC.out (by omega) px (by omega) (keysL P) (by rw [HP.out]) m (by rw [keysL_len, HM.out])).mono ?_
        rintro _ w3 ⟨X, capX, gX, rfl, h3, _, _⟩
        have H3 := Lib.hid h3
        clear h3
        go_wp2_with fail
        refine (under_any H3.out.rl.rg (by omega) px (by omega) (keysL P) (by rw [HP.out]) m (by rw [keysL_len, HM.out])).mono ?_
        rintro _ w4 ⟨V, rfl, hrow, hb⟩
        obtain ⟨Y, capY, rfl⟩ : ∃ Y capY, V = .slice Y m capY := by
          obtain ⟨A', c', g', e, _⟩ := sl_row2 (show w4.ownsRow w3.heap.size 9 1 V (keysL P).length (svs (keysL P)) from by rw [keysL_len, HM.out]; exact hrow)
          rw [keysL_len, HM.out] at e
          exact ⟨A', c', e⟩
        have HROW := Lib.hid hrow
        have HB4 := Lib.hid hb
        have H4 := Lib.hid (H3.out.below hb)
        clear hrow hb
        go_wp2_with fail
        go_loopw [11] (fun i wr => ∃ q : Nat, q ≤ m ∧ i = .int .i64 (q : Int) ∧ Below w4.heap.size w4 wr) (fun i _ => m - (intOf i).toNat)
        case atStart => exact ⟨0, Nat.zero_le _, rfl, Below.refl _ _⟩
        case round =>
          obtain ⟨q, hq, rfl, hb⟩ := hrel
          have HBR := Lib.hid hb
          have HR := Lib.hid (H4.out.below hb)
          clear hb
          by_cases hql : q < m
          · obtain ⟨⟨x, v⟩, hp⟩ : ∃ p, P[q]? = some p := ⟨P[q]'(by rw [HM.out]; exact hql), List.getElem?_eq_getElem _⟩
            obtain ⟨rfl, hgl, d0⟩ := HR.out.sl.2 q x (by unfold keysL; rw [List.getElem?_map, hp]; rfl)
            have hqI : (q : Int) < (m : Int) := by omega
            have hmem : (x, v) ∈ L.filter (pre px) := by rw [HP.out]; exact List.mem_of_getElem? hp
            obtain ⟨hmL, hpre⟩ := List.mem_filter.1 hmem
            have hx40 : x.size ≤ 40 := HC.out.rg.key _ hmL
            have hv0 : ¬ v < 0 := by have := HC.out.rg.pos _ hmL; simp only at this; omega
            have hpx : px.size ≤ x.size := by
              rcases Nat.lt_or_ge x.size px.size with h | h
              · have h2 : preB px x = true := hpre
                rw [preB_ff (by omega)] at h2; cases h2
              · exact h
            have hext : ((x.extract 0 px.size).toList == px.toList) = true := by have h2 : preB px x = true := hpre; rwa [preB_tt hpx] at h2
            have hext2 : ((x.extract 0 px.size).toList != px.toList) = false := by unfold bne; rw [hext]; rfl
            have hszI : decide (x.size < px.size) = false := decide_eq_false (by omega)
            have hszI2 : (px.size : Int) ≤ (x.size : Int) := by omega
            have hvd : decide (v < 0) = false := decide_eq_false hv0
            have HF := Lib.hid (fun nq => Calls.quiet_of ((find_any (HR.out.rl.rg.drewN nq) x (by omega) v (by unfold findO; rw [getL_of HC.out.rg.srt hmL]; rfl)).mono (fun e w' h => ⟨h.1, 1, h.2⟩)))
            have HI := Lib.hid hp
            clear hp hmem hmL hpre hv0
            by_cases hq0 : q = 0
            · have hkd : decide ((q : Int) > 0) = false := by rw [hq0]; decide
              have hkd2 : decide (0 < q) = false := by rw [hq0]; decide
              clear hq0
              go_wp2
              go_quiet ((go_at_call 16; exact HF.out _))
              have HG := Lib.hid (show Below w4.heap.size w4 (wr.drewN nq) from below_drewN HBR.out nq)
              go_wp2
              go_roundw
              case rel => exact ⟨q + 1, by omega, by go_num, HG.out⟩
              case measure => simp [intOf]; omega
            · obtain ⟨j, hjq⟩ : ∃ j, j + 1 = q := ⟨q - 1, by omega⟩
              obtain ⟨⟨y, u⟩, hp⟩ : ∃ p, P[j]? = some p := ⟨P[j]'(by rw [HM.out]; omega), List.getElem?_eq_getElem _⟩
              obtain ⟨_, _, d1⟩ := HR.out.sl.2 j y (by unfold keysL; rw [List.getElem?_map, hp]; rfl)
              have hyx : Op.bytesLess y.toList x.toList = true := srt_lt HPS.out hp HI.out (by omega)
              have hkd : decide ((q : Int) > 0) = true := decide_eq_true (by omega)
              have hkd2 : decide (0 < q) = true := decide_eq_true (by omega)
              have i1 : IntKind.i64.wrap ((q : Int) - 1) = (j : Int) := by rw [show (q : Int) - 1 = (j : Int) by omega]; exact IntWalk.i64_in _ (by omega)
              have i5 : (j : Int) < (m : Int) := by omega
              clear hp hjq hq0
              go_wp2
              go_quiet ((go_at_call 16; exact HF.out _))
              have HG := Lib.hid (show Below w4.heap.size w4 (wr.drewN nq) from below_drewN HBR.out nq)
              clear i1 i5
              go_wp2
              go_roundw
              case rel => exact ⟨q + 1, by omega, by go_num, HG.out⟩
              case measure => simp [intOf]; omega
          · obtain rfl : m = q := by omega
            clear hql
            go_wp2_with fail
            go_loopw [12] (fun i wr => ∃ q : Nat, q ≤ k ∧ i = .int .i64 (q : Int) ∧ Below w4.heap.size w4 wr) (fun i _ => k - (intOf i).toNat)
            case atStart => exact ⟨0, Nat.zero_le _, rfl, HBR.out⟩
            case round =>
              obtain ⟨q, hq, rfl, hb⟩ := hrel
              have HBS := Lib.hid hb
              have HR2 := Lib.hid (H4.out.below hb)
              have HA2 := Lib.hid (HA1.out.keep (HR2.out.rl.bel))
              clear hb
              by_cases hql : q < k
              · obtain ⟨_, c1, _, _⟩ := HA2.out.2 q hql
                obtain rfl := (HA1.out.1 (by omega)).1
                have hqI : (q : Int) < (k : Int) := by omega
                have hx40 := H40.out q hql
                obtain ⟨x, hx⟩ : ∃ x, (xs q).2.1 = x := ⟨_, rfl⟩
                rw [hx] at c1 hx40
                obtain ⟨v, hv⟩ : ∃ v, findO x L = v := ⟨_, rfl⟩
                have HF := Lib.hid (find_any HR2.out.rl.rg x (by omega) v hv)
                have HAN := Lib.hid (by have := anyK_all (px := px) HC.out.rg.srt HC.out.rg.pos v hv; rw [HP.out, keysL_len, HM.out] at this; exact this)
                clear hx hv
                go_wp2_with fail
                go_loop [14, 15] (fun t i => ∃ j : Nat, j ≤ m ∧ t = .bool (anyK x (keysL P) j) ∧ i = .int .i64 (j : Int)) (fun _ i => m - (intOf i).toNat)
                case atStart => exact ⟨0, Nat.zero_le _, rfl, rfl⟩
                case round =>
                  obtain ⟨j, hj, rfl, rfl⟩ := hrel
                  obtain ⟨bi, hbi⟩ : ∃ bi, anyK x (keysL P) j = bi := ⟨_, rfl⟩
                  rw [hbi]
                  by_cases hjl : j < m
                  · obtain ⟨⟨y, u⟩, hp⟩ : ∃ p, P[j]? = some p := ⟨P[j]'(by rw [HM.out]; exact hjl), List.getElem?_eq_getElem _⟩
                    have hky : (keysL P)[j]? = some y := by unfold keysL; rw [List.getElem?_map, hp]; rfl
                    obtain ⟨rfl, hgl, d1⟩ := HR2.out.sl.2 j y hky
                    have HST := Lib.hid (anyK_step (k := x) hky)
                    rw [hbi] at HST
                    have hjI : (j : Int) < (m : Int) := by omega
                    obtain ⟨be, hbe⟩ : ∃ be, (y.toList == x.toList) = be := ⟨_, rfl⟩
                    rw [hbe] at HST
                    clear hp hky hbi
                    cases bi <;> cases be <;> (
                      go_wp2
                      go_round
                      case rel => exact ⟨j + 1, by omega, by rw [HST.out]; rfl, by go_num⟩
                      case measure => simp [intOf]; omega)
                  · obtain rfl : j = m := by omega
                    have hjI : ¬ (j : Int) < (j : Int) := by omega
                    rw [HAN.out] at hbi
                    clear hjl HAN
                    go_wp2_with fail
                    refine HF.out.mono ?_
                    rintro _ w6 ⟨rfl, rfl⟩
                    have H6 := Lib.hid (show Below w4.heap.size w4 (wr.drewN 1) from below_drewN HBS.out 1)
                    by_cases hv0 : v < 0
                    · have hv1 : decide (0 ≤ v) = false := decide_eq_false (by omega)
                      rw [hv1] at hbi
                      obtain rfl : bi = false := by rw [← hbi]; rfl
                      have hv2 : ¬ v ≥ 0 := by omega
                      clear hbi hv1
                      go_wp2
                      go_roundw
                      case rel => exact ⟨q + 1, by omega, by go_num, H6.out⟩
                      case measure => simp [intOf]; omega
                    · have hv1 : decide (0 ≤ v) = true := decide_eq_true (by omega)
                      rw [hv1, Bool.true_and] at hbi
                      have hv2 : v ≥ 0 := by omega
                      by_cases hsz : px.size ≤ x.size
                      · rw [preB_tt hsz] at hbi
                        have hszI : (x.size : Int) ≥ (px.size : Int) := by omega
                        have hszI2 : (px.size : Int) ≤ (x.size : Int) := by omega
                        clear hv1
                        cases bi <;> (
                          go_wp2
                          go_roundw
                          case rel => exact ⟨q + 1, by omega, by go_num, H6.out⟩
                          case measure => simp [intOf]; omega)
                      · rw [preB_ff hsz] at hbi
                        subst hbi
                        have hszI : ¬ (x.size : Int) ≥ (px.size : Int) := by omega
                        clear hv1
                        go_wp2
                        go_roundw
                        case rel => exact ⟨q + 1, by omega, by go_num, H6.out⟩
                        case measure => simp [intOf]; omega
              · obtain rfl : k = q := by omega
                have HRZ := Lib.hid (row9_keep HROW.out (fun j hj => HBS.out.block j (row9_lt HROW.out hj)))
                have HBZ := Lib.hid (HB4.out.trans (HBS.out.mono HB4.out.size))
                clear hql
                go_wp2_with fail
                go_loopw [16] (fun i wr => ∃ (q : Nat) (vs : List Value), q ≤ m ∧ i = .int .i64 (q : Int) ∧ wr.ownsRow w3.heap.size 9 1 (.slice Y m capY) m vs ∧ Below w3.heap.size w3 wr) (fun i _ => m - (intOf i).toNat)
                case atStart => exact ⟨0, _, Nat.zero_le _, rfl, HRZ.out, HBZ.out⟩
                case round =>
                  obtain ⟨q, vs, hq, rfl, hr, hb⟩ := hrel
                  have HBB := Lib.hid hb
                  clear hb
                  by_cases hql : q < m
                  · obtain ⟨g2, u, rfl, hge, d0, f0⟩ := row9_at hr hql
                    have hqI : (q : Int) < (m : Int) := by omega
                    have HRS := Lib.hid (row9_set hr q (.string ⟨#[115, 112, 111, 105, 108, 116]⟩))
                    have HBT := Lib.hid (HBB.out.setCell (p := ⟨g2, q, none⟩) hge (.string ⟨#[115, 112, 111, 105, 108, 116]⟩))
                    clear hr
                    go_wp2_with fail
                    go_roundw
                    case rel => exact ⟨q + 1, _, by omega, by go_num, HRS.out, HBT.out⟩
                    case measure => simp [intOf]; omega
                  · obtain rfl : m = q := by omega
                    have H5 := Lib.hid (H3.out.below HBB.out)
                    clear hr hql
                    go_wp2_with fail
                    refine (under_rq H5.out.rl (by omega) px (by omega) (keysL P) (by rw [HP.out]) m (by rw [keysL_len, HM.out])).mono ?_
                    rintro _ w7 ⟨Z, capZ, gZ, rfl, h3, hb, _⟩
                    have Hf := Lib.hid (show Sl w7 X capX gX (keysL P) ∧ Rq w1 w7 r M n E L _ Z capZ gZ (keysL P) from ⟨H5.out.sl.below hb, h3⟩)
                    clear h3 hb
                    go_wp2_with fail
                    refine Calls.mono (by have := texts_same Hf.out.2.sl Hf.out.1 (by rw [keysL_len, HM.out]; omega); rwa [keysL_len, HM.out] at this) ?_
                    rintro _ w8 ⟨rfl, hb⟩
                    have Hg := Lib.hid (Hf.out.2.rl.bel.trans (hb.mono Hf.out.2.rl.bel.size))
                    clear hb
                    go_wp2
                    go_ret
                    exact ⟨rfl, HB1.out.trans (Hg.out.mono HB1.out.size)⟩
theorem regUnder_walk (w : World) (a0 : Int) (w0 : (Lit.int .i64 a0).wf = true) (A1 : Option Addr) (len1 cap1 : Nat) (S1 : Sh.ok w (Sh.slice 3 (Sh.agg 3 [(0, 1, (Sh.int .i64)), (1, 1, Sh.str), (2, 1, (Sh.int .i64))])) [.slice A1 len1 cap1]) (a2 : ByteArray) (w2 : a2.size ≤ maxLen) :
    Calls Try.prog 6 #[.int .i64 a0, .slice A1 len1 cap1, .string a2] w fun e w' => e = .returned (.bool true) ∧ Below w.heap.size w w' := by
  obtain ⟨b, off, xs, hl, hm, hA⟩ := acts_of S1
  exact under_in w a0 (wf_i64 w0).2 A1 len1 cap1 b off xs hl hm hA a2
end Go.Proofs.Ytlfjhbfhnlclpaa
