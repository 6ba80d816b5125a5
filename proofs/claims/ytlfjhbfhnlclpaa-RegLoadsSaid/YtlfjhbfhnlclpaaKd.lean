/- RegLoads: each key lies in the shard that its sum tells. -/
import Derived.Test.YtlfjhbfhnlclpaaKb
namespace Go.Proofs.Ytlfjhbfhnlclpaa
open Go.RowKit
open Go.Lib
set_option linter.unusedVariables false
set_option linter.unusedSimpArgs false
set_option maxRecDepth 100000
theorem wf_small {a : Int} (h : -1 ≤ a) (h2 : a ≤ 1000000) : wf a := by
  unfold wf
  simp [Lit.wf, IntKind.min, IntKind.max, IntKind.signed, IntKind.bits]
  omega
theorem shard_shd (s : ByteArray) (n : Int) (w : World) (hs : s.size ≤ maxLen) (hn : 1 ≤ n) (hn2 : n ≤ 9223372036854775807) :
    Calls Try.prog 24 #[.string s, .int .i64 n] w fun e w' => e = .returned (.int .i64 (shd n s)) ∧ w' = w := by
  unfold shd
  exact shard_some s n w hs hn hn2
def ltS (n : Int) (q : Nat) (p : ByteArray × Int) : Bool := decide (shd n p.1 < (q : Int))
theorem ltS_step (n : Int) (q : Nat) (L : LN) : (L.filter (ltS n (q + 1))).length = (L.filter (ltS n q)).length + (L.filter (inS n q)).length := by
  rw [← List.length_append]
  refine (filter_or_perm (fun a => ?_) (fun a ha => ?_) L).length_eq
  · unfold ltS inS
    by_cases e : shd n a.1 = q
    · rw [decide_eq_true (by omega)]; simp [e]
    · by_cases e2 : shd n a.1 < (q : Int)
      · rw [decide_eq_true e2, decide_eq_true (by omega)]; rfl
      · rw [decide_eq_false e2, decide_eq_false (by omega)]; simp [e]
  · unfold inS at ha
    unfold ltS
    rw [beq_iff_eq.1 ha]
    simp
theorem ltS_all (n : Int) (L : LN) (nn : Nat) (h1 : 1 ≤ n) (h : n = nn) : L.filter (ltS n nn) = L := List.filter_eq_self.2 (fun p _ => by
  unfold ltS
  have := (shd_rng n p.1 h1).2
  exact decide_eq_true (by omega))
theorem inS_no (n s : Int) (L : LN) (h1 : 1 ≤ n) (h : s < 0 ∨ n ≤ s) : (L.filter (inS n s)).length = 0 := by
  rw [List.filter_eq_nil_iff.2 (fun p _ e => ?_)]
  · rfl
  · unfold inS at e
    have := shd_rng n p.1 h1
    rw [beq_iff_eq.1 e] at this
    omega
def cntS (n : Int) (q : Nat) (L : LN) (i : Nat) : Nat := ((L.take i).filter (inS n q)).length
theorem cntS_le (n : Int) (q : Nat) (L : LN) (i : Nat) : cntS n q L i ≤ L.length := by
  unfold cntS
  exact Nat.le_trans (List.length_filter_le _ _) (by rw [List.length_take]; omega)
theorem cntS_step {n : Int} {q : Nat} {L : LN} {i : Nat} {p : ByteArray × Int} (h : L[i]? = some p) : cntS n q L (i + 1) = cntS n q L i + if shd n p.1 = (q : Int) then 1 else 0 := by
  unfold cntS
  rw [List.take_add_one, h, List.filter_append, List.length_append]
  congr 1
  simp only [Option.toList, List.filter_cons, List.filter_nil]
  unfold inS
  by_cases e : shd n p.1 = (q : Int)
  · rw [if_pos e, if_pos (by simpa using e)]; rfl
  · rw [if_neg e, if_neg (by simpa using e)]; rfl
theorem cntS_all (n : Int) (q : Nat) (L : LN) : cntS n q L L.length = (L.filter (inS n q)).length := by
  unfold cntS
  rw [List.take_length]
set_option maxHeartbeats 16000000 in
theorem loads_in (w : World) (s : Int) (hs : s ≤ 9223372036854775807) (A : Option Addr) (len cap b off : Nat) (xs : Nat → A3) (hl : len ≤ cap) (hm : cap ≤ maxLen) (hA : Acts w A len b off xs) :
    Calls Try.prog 5 #[.int .i64 s, .slice A len cap] w fun e w' => e = .returned (.bool true) ∧ Below w.heap.size w w' := by
  have HA := Lib.hid hA
  have HM := Lib.hid hm
  have HLC := Lib.hid hl
  clear hA hm hl
  go_enter Try.func5, Try.ntmps5
  go_wp2_with fail
  refine (first_any _).mono ?_
  rintro _ w1 ⟨rfl, hb⟩
  have HB1 := Lib.hid hb
  have HA1 := Lib.hid (HA.out.keep hb)
  clear hb
  go_wp2_with fail
  refine (light_any w1 s A len cap b off xs HLC.out HM.out HA1.out).mono ?_
  rintro _ wz ⟨⟨bb, rfl, hlt⟩, hw0⟩
  replace hw0 := hw0.symm
  subst hw0
  have HLT := Lib.hid hlt
  clear hlt
  cases bb with
  | false =>
    go_wp2_with fail
    refine (first_any _).mono ?_
    rintro _ w2 ⟨rfl, hb⟩
    have HB2 := Lib.hid hb
    clear hb
    go_wp2
    go_ret
    exact ⟨rfl, HB1.out.trans (HB2.out.mono HB1.out.size)⟩
  | true =>
    obtain ⟨h64, h80, h40⟩ := HLT.out rfl
    have H40 := Lib.hid h40
    clear h40 HLT
    obtain ⟨n, hn⟩ : ∃ n, max s 1 = n := ⟨_, rfl⟩
    have HN := Lib.hid hn
    go_wp2_with fail
    refine (new_reg s w1 hs n hn).mono ?_
    rintro _ w2 ⟨r, M, rfl, h1, hb, hr, hM⟩
    have HR0 := Lib.hid (show Rl w1 w2 r M n [] [] (2 * 0) from ⟨h1, hb, fun j hj => by simp [blocks] at hj; rcases hj with rfl | rfl <;> assumption⟩)
    clear h1 hb hr hM hn
    go_wp2_with fail
    go_loopw [6] (fun i wr => ∃ (k : Nat) (E : List (Int × Nat)) (L : LN), k ≤ len ∧ i = .int .i64 (k : Int) ∧ Rl w1 wr r M n E L (2 * k)) (fun i _ => len - (intOf i).toNat)
    case atStart => exact ⟨0, [], [], Nat.zero_le _, rfl, HR0.out⟩
    case round =>
      obtain ⟨k, E, L, hk, rfl, hc⟩ := hrel
      have HC := Lib.hid hc
      clear hc
      by_cases hlt : k < len
      · obtain ⟨d0, d1, d2, _⟩ := (HA1.out.keep HC.out.bel).2 k hlt
        obtain rfl := (HA1.out.1 (by omega)).1
        have hltI : (k : Int) < (len : Int) := by omega
        have H40k := Lib.hid (H40.out k hlt)
        obtain ⟨op, hop⟩ : ∃ op, (xs k).1 = op := ⟨_, rfl⟩
        obtain ⟨kk, hkk⟩ : ∃ kk, (xs k).2.1 = kk := ⟨_, rfl⟩
        obtain ⟨idd, hid⟩ : ∃ idd, (xs k).2.2 = idd := ⟨_, rfl⟩
        rw [hop] at d0
        rw [hkk] at d1 H40k
        rw [hid] at d2
        obtain ⟨⟨ok, L'⟩, hso⟩ : ∃ p, stepO op kk idd L = p := ⟨_, rfl⟩
        have HS := Lib.hid (step_any HC.out.rg (by omega) op idd kk H40k.out ok L' hso)
        clear hso hop hkk hid
        go_wp2_with fail
        refine HS.out.mono ?_
        rintro _ w3 ⟨rfl, h3⟩
        obtain ⟨E', h3⟩ := HC.out.went h3
        have H3 := Lib.hid h3
        clear h3
        go_wp2
        go_roundw
        case rel => exact ⟨k + 1, E', L', by omega, by go_num, H3.out⟩
        case measure => simp [intOf]; omega
      · obtain rfl : k = len := by omega
        have hltI : ¬ (k : Int) < (k : Int) := by omega
        have hc160 : 2 * k ≤ 160 := by omega
        have HLL := Lib.hid HC.out.rg.ll
        clear hlt hk
        go_wp2_with fail
        refine (under_rq HC.out (by omega) ⟨#[]⟩ (by decide) (keysL L) (by rw [all_pre]) L.length (keysL_len L)).mono ?_
        rintro _ w3 ⟨X, capX, gX, rfl, h3, _, _⟩
        have H3 := Lib.hid h3
        clear h3
        have hn1 := HC.out.rg.n1
        obtain ⟨nn, rfl⟩ : ∃ nn : Nat, n = (nn : Int) := ⟨n.toNat, by omega⟩
        have hn64 : nn ≤ 64 := by have := HN.out; omega
        obtain ⟨ll, hll⟩ : ∃ ll, L.length = ll := ⟨_, rfl⟩
        have HEL := Lib.hid hll
        have hl160 : ll ≤ 160 := by have := HLL.out; omega
        rw [hll]
        have HSL := Lib.hid H3.out.sl
        have HMX := @wpList_max0
        clear hll
        go_wp2_with fail
        go_loop [8, 9] (fun t i => ∃ q : Nat, q ≤ nn ∧ t = .int .i64 ((L.filter (ltS nn q)).length : Int) ∧ i = .int .i64 (q : Int)) (fun _ i => nn - (intOf i).toNat)
        case atStart => exact ⟨0, Nat.zero_le _, by rw [List.filter_eq_nil_iff.2 (fun p _ e => by have := (shd_rng (nn : Int) p.1 hn1).1; have := of_decide_eq_true e; omega)]; rfl, rfl⟩
        case round =>
          obtain ⟨q, hq, rfl, rfl⟩ := hrel
          obtain ⟨tt, htt⟩ : ∃ tt, (L.filter (ltS (nn : Int) q)).length = tt := ⟨_, rfl⟩
          have hb1 : tt ≤ 160 := by have := List.length_filter_le (ltS (nn : Int) q) L; have := HEL.out; omega
          rw [htt]
          have HTT := Lib.hid htt
          clear htt
          by_cases hqn : q < nn
          · have hqI : (q : Int) < (nn : Int) := by omega
            have hdq : decide ((q : Int) < (nn : Int)) = true := decide_eq_true hqI
            have hmx : (q : Int) < max s 1 := by rw [HN.out]; omega
            go_wp2_with fail
            rw [HN.out]
            go_loop [10, 11] (fun k i => ∃ j : Nat, j ≤ ll ∧ k = .int .i64 (cntS nn q L j : Int) ∧ i = .int .i64 (j : Int)) (fun _ i => ll - (intOf i).toNat)
            case atStart => exact ⟨0, Nat.zero_le _, rfl, rfl⟩
            case round =>
              obtain ⟨j, hj, rfl, rfl⟩ := hrel
              have hcl := cntS_le (nn : Int) q L j
              obtain ⟨kc, hkc⟩ : ∃ kc, cntS (nn : Int) q L j = kc := ⟨_, rfl⟩
              rw [hkc] at hcl ⊢
              have hkl : kc ≤ 160 := by have := HEL.out; omega
              have HKC := Lib.hid hkc
              clear hkc hcl
              by_cases hjl : j < ll
              · obtain ⟨p, hp⟩ : ∃ p, L[j]? = some p := ⟨L[j]'(by rw [HEL.out]; exact hjl), List.getElem?_eq_getElem _⟩
                obtain ⟨rfl, hgl, d0⟩ := HSL.out.2 j p.1 (by unfold keysL; rw [List.getElem?_map, hp]; rfl)
                have hjI : (j : Int) < (ll : Int) := by omega
                have hps : p.1.size ≤ maxLen := by have := HC.out.rg.key p (List.mem_of_getElem? hp); unfold maxLen; omega
                have HST := Lib.hid (cntS_step (n := (nn : Int)) (q := q) hp)
                obtain ⟨key, hkey⟩ : ∃ key, p.1 = key := ⟨_, rfl⟩
                rw [hkey] at d0 hps HST
                have HSH := Lib.hid (fun W => shard_shd key (nn : Int) W hps hn1 (by omega))
                clear hp hkey hps
                go_wp2_with fail
                rw [HN.out]
                refine (HSH.out _).mono ?_
                rintro _ wz ⟨rfl, hw0⟩
                replace hw0 := hw0.symm
                subst hw0
                by_cases he : shd (nn : Int) key = (q : Int)
                · rw [he]
                  have hqq : ((q : Int) == (q : Int)) = true := by simp
                  go_wp2
                  go_round
                  case rel => exact ⟨j + 1, by omega, by rw [HST.out, if_pos he, HKC.out]; go_num, by go_num⟩
                  case measure => simp [intOf]; omega
                · obtain ⟨sh, hsh⟩ : ∃ sh, shd (nn : Int) key = sh := ⟨_, rfl⟩
                  rw [hsh]
                  have heb : (sh == (q : Int)) = false := by rw [← hsh]; simpa using he
                  have HST2 := Lib.hid (show cntS (nn : Int) q L (j + 1) = kc from by rw [HST.out, if_neg he, HKC.out]; rfl)
                  clear hsh he
                  go_wp2
                  go_round
                  case rel => exact ⟨j + 1, by omega, by rw [HST2.out], by go_num⟩
                  case measure => simp [intOf]; omega
              · obtain rfl : j = ll := by omega
                have hjI : ¬ (j : Int) < (j : Int) := by omega
                have hkk : (L.filter (inS (nn : Int) q)).length = kc := by rw [← HKC.out, ← HEL.out, cntS_all]
                have HLO := Lib.hid (load_any H3.out.rl.rg (q : Int) (wf_small (by omega) (by omega)) kc hkk)
                have HTS := Lib.hid (show (L.filter (ltS (nn : Int) (q + 1))).length = tt + kc from by rw [ltS_step, HTT.out, hkk])
                have hsum : tt + kc ≤ 160 := by rw [← HTS.out]; have := List.length_filter_le (ltS (nn : Int) (q + 1)) L; have := HEL.out; omega
                clear hkk
                go_wp2_with fail
                refine HLO.out.mono ?_
                rintro _ wz ⟨rfl, hw0⟩
                replace hw0 := hw0.symm
                subst hw0
                have hkk : ((kc : Int) != (kc : Int)) = false := by simp
                go_wp2
                go_round
                case rel => exact ⟨q + 1, by omega, by rw [HTS.out]; go_num, by go_num⟩
                case measure => simp [intOf]; omega
          · obtain rfl : q = nn := by omega
            have hqI : ¬ (q : Int) < (q : Int) := by omega
            have hdq : decide ((q : Int) < (q : Int)) = false := decide_eq_false hqI
            obtain rfl : tt = ll := by rw [← HTT.out, ltS_all _ _ _ hn1 rfl, HEL.out]
            have htl : ((tt : Int) == (tt : Int)) = true := by simp
            have HLE := Lib.hid (len_reg H3.out.rl.rg (by omega) tt HEL.out)
            have hmx : ¬ (q : Int) < max s 1 := by rw [HN.out]; omega
            go_wp2_with fail
            refine HLE.out.mono ?_
            rintro _ w5 ⟨rfl, hb⟩
            have H5 := Lib.hid (H3.out.rl.below hb)
            have HL1 := Lib.hid (load_any H5.out.rg (-1) (wf_small (by omega) (by omega)) 0 (inS_no _ _ _ hn1 (.inl (by omega))))
            have HL2 := Lib.hid (load_any H5.out.rg (q : Int) (wf_small (by omega) (by omega)) 0 (inS_no _ _ _ hn1 (.inr (by omega))))
            clear hb
            go_wp2_with fail
            refine HL1.out.mono ?_
            rintro _ wz ⟨rfl, hw0⟩
            replace hw0 := hw0.symm
            subst hw0
            have h00 : (((0 : Nat) : Int) == 0) = true := by decide
            go_wp2_with fail
            rw [HN.out]
            refine HL2.out.mono ?_
            rintro _ wz ⟨rfl, hw0⟩
            replace hw0 := hw0.symm
            subst hw0
            go_wp2
            go_ret
            exact ⟨rfl, HB1.out.trans (H5.out.bel.mono HB1.out.size)⟩
theorem regLoads_walk (w : World) (a0 : Int) (w0 : (Lit.int .i64 a0).wf = true) (A1 : Option Addr) (len1 cap1 : Nat) (S1 : Sh.ok w (Sh.slice 3 (Sh.agg 3 [(0, 1, (Sh.int .i64)), (1, 1, Sh.str), (2, 1, (Sh.int .i64))])) [.slice A1 len1 cap1]) :
    Calls Try.prog 5 #[.int .i64 a0, .slice A1 len1 cap1] w fun e w' => e = .returned (.bool true) ∧ Below w.heap.size w w' := by
  obtain ⟨b, off, xs, hl, hm, hA⟩ := acts_of S1
  exact loads_in w a0 (wf_i64 w0).2 A1 len1 cap1 b off xs hl hm hA
end Go.Proofs.Ytlfjhbfhnlclpaa
