/- PackBack: its walk. -/
import Derived.Test.YtcaimaeikedhoaaLst
import Derived.Deep.RegionHeld
namespace Go.Proofs.Ytcaimaeikedhoaa
open Go.RowKit
set_option linter.unusedVariables false
set_option maxRecDepth 100000
theorem cut_call (t : ByteArray) (ht : t.size ≤ 300) (m : Nat) (hm : m + 1 = (enct t).length) {W : World} {g : Nat} (h : Rd W g ⟨((enct t).take m).toArray⟩ 0 0) :
    Calls Try.prog 13 #[.pointer (some ⟨g, 0, none⟩), .int .i64 400] W fun r w' => r = .returned (.string ⟨#[]⟩) ∧ Rd w' g ⟨((enct t).take m).toArray⟩ 0 14 ∧ Below g W w' := by
  have hs : (⟨((enct t).take m).toArray⟩ : ByteArray).size = m := by
    show ((enct t).take m).toArray.size = m
    rw [List.size_toArray, List.length_take]; omega
  have hl := enct_length ht
  have hc := cut_text t ht
  rw [show (enct t).length - 1 = m by omega] at hc
  rcases hc with hc | ⟨hc, hp⟩
  · exact text_bad (P := 0) h (by rw [hs]; omega) (by omega) hc (by omega)
  · have h2 : t.data.toList.length = t.size := Array.length_toList
    have hle : m + 1 = (enc t.size).length + t.size := by rw [hm]; unfold enct; rw [List.length_append, h2]
    exact text_over (P := 0) h (by rw [hs]; omega) (by omega) hc (by rw [hs]; omega) (by rw [hs]; rw [if_pos (by omega)]) (by omega)
set_option maxHeartbeats 4000000 in
theorem back_go (w : World) (A0 : Option Addr) (len0 cap0 b0 o0 : Nat) (xs : List Int) (h0 : Ints w A0 len0 b0 o0 xs) (hc0 : (len0 : Int) ≤ cap0) (A1 : Option Addr) (len1 cap1 b1 o1 : Nat) (ts : List ByteArray) (h1 : Strs w A1 len1 b1 o1 ts) (hc1 : (len1 : Int) ≤ cap1)
    (A2 : Option Addr) (len2 cap2 b2 o2 : Nat) (ms : List UInt8) (h2 : Byt w A2 len2 cap2 b2 o2 ms) (hl0 : len0 ≤ 20) (hl1 : len1 ≤ 10) (hl2 : len2 ≤ 20) :
    Calls Try.prog 4 #[.slice A0 len0 cap0, .slice A1 len1 cap1, .slice A2 len2 cap2] w fun e w' => e = .returned (.bool true) ∧ Below w.heap.size w w' := by
  have CF := Lib.hid first_any
  have HI := Lib.hid h0
  have HS := Lib.hid h1
  have HM := Lib.hid h2
  have HML := Lib.hid h2.hlen
  have hg1 : (decide (20 < (len0 : Int)) || decide (10 < (len1 : Int))) = false := by simp; omega
  have hg2 : ((decide (20 < (len0 : Int)) || decide (10 < (len1 : Int))) || decide (20 < (len2 : Int))) = false := by simp; omega
  clear h0 h1 h2
  obtain ⟨i0, hi, hz0, hz1, hz2⟩ := info_parts info5
  have H0 := Lib.hid (Below.refl w.heap.size w)
  go_enter Try.func4, Try.ntmps4
  go_wp2_with (first
    | (go_at_call 6; refine (CF.out _).mono ?_; rintro _ w1 ⟨rfl, h1⟩; have H0 := Lib.hid (H0.out.trans (h1.mono H0.out.size)); clear h1)
    | fail)
  go_loopw [7, 8] (fun u i wr => ∃ (k : Nat) (A : Option Addr) (L cap b : Nat), k ≤ len0 ∧ i = .int .i64 (k : Int) ∧ u = .slice A L cap ∧ L = (ezs (xs.take k)).length ∧ Byt wr A L cap b 0 (ezs (xs.take k)) ∧ Below w.heap.size w wr) (fun _ i _ => len0 - (intOf i).toNat)
  case atStart => exact ⟨0, none, 0, 0, 0, Nat.zero_le _, rfl, rfl, rfl, nil_byt _, H0.out⟩
  case round =>
    obtain ⟨k, A, L, cap, b, hk, rfl, rfl, hL, hB, hU⟩ := hrel
    have HB := Lib.hid hB
    have HU := Lib.hid hU
    have HL := Lib.hid hL
    clear hB hU hL
    by_cases hlt : k < len0
    · obtain ⟨x, hx⟩ : ∃ x, xs[k]? = some x := ⟨xs[k]'(by rw [HI.out.hlen]; exact hlt), List.getElem?_eq_getElem _⟩
      obtain ⟨rfl, _⟩ := HI.out.addr (by omega)
      have cx := (HI.out.below HU.out).cell k x hx
      have HX := Lib.hid hx
      have hxm := HI.out.rng x (List.mem_of_getElem? hx)
      have hL9 : L ≤ 180 := by
        rw [HL.out]
        have := ezs_length (xs := xs.take k) (fun y hy => HI.out.rng y (List.mem_of_mem_take hy))
        rw [List.length_take] at this
        omega
      have HXM := Lib.hid hxm
      clear hx hxm
      have hki : (k : Int) < (len0 : Int) := by omega
      go_wp2_with (
        go_at_call 7
        refine (num_any HB.out (by omega) x HXM.out).mono ?_
        rintro _ w2 ⟨v2, rfl, h1, h2⟩
        have H1 := Lib.hid h1
        have H2 := Lib.hid (HU.out.trans (h2.mono HU.out.size))
        clear h1 h2)
      go_roundw
      case rel =>
        obtain ⟨A', L', cap', b', rfl, hL', _, _, hb'⟩ := H1.out.bytL
        exact ⟨k + 1, A', L', cap', b', by omega, by go_num, rfl, by rw [hL', ezs_snoc HX.out], by rw [ezs_snoc HX.out]; exact hb', H2.out⟩
      case measure => simp [intOf]; omega
    · have hkl : k = len0 := by omega
      subst hkl
      have hall : xs.take k = xs := List.take_of_length_le (by rw [HI.out.hlen]; exact Nat.le_refl _)
      rw [hall] at HB HL
      clear hall
      have HB1 := HB
      have HL1 := HL
      have HU1 := HU
      clear HB HL HU
      go_wp2_with fail
      go_loopw [7, 9] (fun u i wr2 => ∃ (k2 : Nat) (A : Option Addr) (L cap b : Nat), k2 ≤ len1 ∧ i = .int .i64 (k2 : Int) ∧ u = .slice A L cap ∧ L = (ezs xs ++ ets (ts.take k2)).length ∧ Byt wr2 A L cap b 0 (ezs xs ++ ets (ts.take k2)) ∧ (∀ t ∈ ts.take k2, t.size ≤ 300) ∧ Below w.heap.size w wr2) (fun _ i _ => len1 - (intOf i).toNat)
      case atStart => exact ⟨0, A, L, cap, b, Nat.zero_le _, rfl, rfl, by simpa [ets] using HL1.out, by simpa [ets] using HB1.out, by simp, HU1.out⟩
      case round =>
        obtain ⟨k2, A', L', cap', b', hk2, rfl, rfl, hL, hB, hsm, hU⟩ := hrel
        have HB := Lib.hid hB
        have HU := Lib.hid hU
        have HL := Lib.hid hL
        have HSM := Lib.hid hsm
        clear hB hU hL hsm
        by_cases hlt2 : k2 < len1
        · obtain ⟨t, ht⟩ : ∃ t, ts[k2]? = some t := ⟨ts[k2]'(by rw [HS.out.hlen]; exact hlt2), List.getElem?_eq_getElem _⟩
          obtain ⟨rfl, _⟩ := HS.out.addr (by omega)
          have cx := (HS.out.below HU.out).cell k2 t ht
          have HX := Lib.hid ht
          have hki : (k2 : Int) < (len1 : Int) := by omega
          have hL9 : L' ≤ 5000 := by
            rw [HL.out, List.length_append]
            have := ezs_length (xs := xs) HI.out.rng
            have := ets_length HSM.out
            rw [List.length_take] at this
            have := HI.out.hlen
            omega
          clear ht
          by_cases hbig : 300 < t.size
          · go_wp2_with (go_at_call 6; refine (CF.out _).mono ?_; rintro _ w2 ⟨rfl, h1⟩; have H5 := Lib.hid (HU.out.trans (h1.mono HU.out.size)); clear h1)
            go_ret
            exact ⟨rfl, H5.out⟩
          · go_wp2_with (
              go_at_call 8
              refine (text_any HB.out (by omega) t (by omega)).mono ?_
              rintro _ w2 ⟨v2, rfl, h1, h2⟩
              have H1 := Lib.hid h1
              have H2 := Lib.hid (HU.out.trans (h2.mono HU.out.size))
              clear h1 h2)
            go_roundw
            case rel =>
              obtain ⟨A'', L'', cap'', b'', rfl, hL', _, _, hb'⟩ := H1.out.bytL
              refine ⟨k2 + 1, A'', L'', cap'', b'', by omega, by go_num, rfl, by rw [hL', ets_snoc HX.out, List.append_assoc], by rw [ets_snoc HX.out, ← List.append_assoc]; exact hb', ?_, H2.out⟩
              intro y hy
              obtain ⟨hk3, e3⟩ := List.getElem?_eq_some_iff.1 HX.out
              rw [List.take_succ_eq_append_getElem hk3] at hy
              rcases List.mem_append.1 hy with hy | hy
              · exact HSM.out y hy
              · rw [e3] at hy
                have : y = t := by simpa using hy
                subst this
                omega
            case measure => simp [intOf]; omega
        · have hkl2 : k2 = len1 := by omega
          subst hkl2
          have hall : ts.take k2 = ts := List.take_of_length_le (by rw [HS.out.hlen]; exact Nat.le_refl _)
          rw [hall] at HB HL HSM
          clear hall
          have hE : (ezs xs ++ ets ts).length ≤ 5000 := by
            rw [List.length_append]
            have := ezs_length (xs := xs) HI.out.rng
            have := ets_length HSM.out
            have := HI.out.hlen
            have := HS.out.hlen
            omega
          have HE := Lib.hid hE
          have HUs := HU.out.size
          clear hE
          go_wp2_with (first
            | (at_builtin
               refine wpList_own_append (e := 5) (t := 22) (tx := 22) (z := .int .u8 0) (i := i0) (B := w.heap.size) (v := .slice (some ⟨wr.heap.size, 0, none⟩) 0 0) (l := []) _ rfl (.tmp 62) (.tmp 63) rfl Try.underlying22 hi hz0 hz1 hz2 rfl rfl (Own.nil 5 _ _ _) ?hB1 (.slice A' L' cap') rfl (ezs xs ++ ets ts) ((HB.out.below ((Below.refl _ _).alloc (Nat.le_refl _) _)).srcs) ?h63_1 ?hK1
               case hB1 => (simp; omega)
               case h63_1 => (have := HE.out; rw [List.length_nil]; omega)
               intro v4 w4 h1 h2
               have HO4 := Lib.hid (show Own 5 w.heap.size w4 v4 (ezs xs ++ ets ts) from h1)
               have H4 := Lib.hid ((HU.out.alloc HUs _).trans h2)
               clear h1 h2)
            | (at_builtin
               refine wpList_own_append (e := 5) (t := 22) (tx := 22) (z := .int .u8 0) (i := i0) (B := w.heap.size) (v := v4) (l := ezs xs ++ ets ts) _ rfl (.tmp 64) (.tmp 65) rfl Try.underlying22 hi hz0 hz1 hz2 rfl rfl HO4.out H4.out.size (.slice A2 len2 cap2) rfl ms ((HM.out.below H4.out).srcs) ?h63_2 ?hK2
               case h63_2 => (have := HE.out; have := HML.out; omega)
               intro v5 w5 h1 h2
               have H5 := Lib.hid (H4.out.trans h2)
               obtain ⟨A5, L5, cap5, b5, rfl, hL5, _, _, hb5⟩ := h1.bytL
               have HB5 := Lib.hid hb5
               have HL5 := Lib.hid hL5
               clear h1 h2 hb5 hL5)
            | (go_at_call 11
               refine (read_any HB5.out).mono ?_
               rintro _ w6 ⟨rfl, h1, h2⟩
               have HR6 := Lib.hid h1
               have HG := Lib.hid H5.out.size
               have H6 := Lib.hid (H5.out.trans (h2.mono H5.out.size))
               generalize w5.heap.size = g at *
               clear h1 h2)
            | fail)
          have hsz : (⟨(ezs xs ++ ets ts ++ ms).toArray⟩ : ByteArray).size = (ezs xs ++ ets ts ++ ms).length := by show (ezs xs ++ ets ts ++ ms).toArray.size = _; simp
          have hsz2 : (⟨(ezs xs ++ ets ts ++ ms).toArray⟩ : ByteArray).size ≤ 6000 := by rw [hsz, List.length_append, HML.out]; have := HE.out; omega
          have HZ := Lib.hid hsz
          have HZ2 := Lib.hid hsz2
          have HSL := Lib.hid (show (⟨(ezs xs ++ ets ts ++ ms).toArray⟩ : ByteArray).data.toList = ezs xs ++ ets ts ++ ms from rfl)
          generalize (⟨(ezs xs ++ ets ts ++ ms).toArray⟩ : ByteArray) = S at *
          clear hsz hsz2 HB HB5 HO4 HB1 HL1
          go_loopw [11] (fun i wr3 => ∃ k3 : Nat, k3 ≤ k ∧ i = .int .i64 (k3 : Int) ∧ Rd wr3 g S ((ezs (xs.take k3)).length : Nat) 0 ∧ Below w.heap.size w wr3) (fun i _ => k - (intOf i).toNat)
          case atStart => exact ⟨0, Nat.zero_le _, rfl, by simpa [ezs] using HR6.out, H6.out⟩
          case round =>
            obtain ⟨k3, hk3, rfl, hR, hU3⟩ := hrel
            have HR := Lib.hid hR
            have HU3 := Lib.hid hU3
            clear hR hU3
            by_cases hlt3 : k3 < k
            · obtain ⟨x, hx⟩ : ∃ x, xs[k3]? = some x := ⟨xs[k3]'(by rw [HI.out.hlen]; exact hlt3), List.getElem?_eq_getElem _⟩
              obtain ⟨rfl, hbw⟩ := HI.out.addr (by omega)
              have HX := Lib.hid hx
              have HBW := Lib.hid hbw
              have cx := (HI.out.below HU3.out).cell k3 x hx
              have HXM := Lib.hid (HI.out.rng x (List.mem_of_getElem? hx))
              have hki : (k3 : Int) < (k : Int) := by omega
              have HAT := Lib.hid (ezs_at hx (ets ts ++ ms))
              clear hx hbw
              by_cases hneg : x < 0
              · have hd : decide (0 ≤ x) = false := by simp; omega
                have HNE := Lib.hid (show ezs (xs.take (k3 + 1)) = ezs (xs.take k3) by rw [ezs_snoc HX.out]; simp [encz, hneg])
                go_wp2_with fail
                go_quiet (fail)
                go_wp2_with fail
                go_roundw
                case rel => exact ⟨k3 + 1, by omega, by go_num, by rw [HNE.out]; exact Blk.drewN HR.out _, below_drewN HU3.out _⟩
                case measure => simp [intOf]; omega
              · obtain ⟨N, rfl⟩ := Int.eq_ofNat_of_zero_le (show 0 ≤ x by omega)
                have hd : decide (0 ≤ (N : Int)) = true := by simp
                have HRT := Lib.hid (show rt (S.data.toList.drop (ezs (xs.take k3)).length) = (N, (enc N).length, 0) by
                  rw [HSL.out, List.append_assoc, HAT.out, show encz (N : Int) = enc N by unfold encz; rw [if_neg hneg, Int.toNat_natCast]]
                  exact rt_enc N (by have := HXM.out; omega) _)
                have HNE := Lib.hid (show (ezs (xs.take (k3 + 1))).length = (ezs (xs.take k3)).length + (enc N).length by
                  rw [ezs_snoc HX.out, List.length_append, show encz (N : Int) = enc N by unfold encz; rw [if_neg hneg, Int.toNat_natCast]])
                have HPS := Lib.hid (show (ezs (xs.take k3)).length ≤ S.size by
                  rw [HZ.out, List.length_append, List.length_append]
                  have h5 := congrArg List.length (List.take_append_drop k3 xs)
                  have h6 : ezs xs = ezs (xs.take k3) ++ ezs (xs.drop k3) := by unfold ezs; rw [← List.flatMap_append, List.take_append_drop]
                  rw [h6, List.length_append]; omega)
                go_wp2_with fail
                have HRD : Hid (Rd wr.drew g S ((ezs (xs.take k3)).length : Nat) 0) := Lib.hid (Blk.drew HR.out)
                have cx2 : wr.drew.cell? ⟨b0, o0 + k3, none⟩ = some (.int .i64 (N : Int)) := cx
                go_region_held (fun w' => w'.cell? ⟨b0, o0 + k3, none⟩ = some (.int .i64 (N : Int))) (assumption) (first
                  | (go_at_call 12
                     (with_reducible refine (num_ok HRD.out (Nat.le_trans HZ2.out (by omega)) HPS.out HRT.out).mono ?_)
                     rintro _ w7 ⟨rfl, h1, h2⟩
                     have HR7 := Lib.hid h1
                     have H7 := Lib.hid (HU3.out.drew.trans (h2.mono HG.out))
                     have cx3 : w7.cell? ⟨b0, o0 + k3, none⟩ = some (.int .i64 (N : Int)) := (World.cell?_of_block (h2.block b0 (Nat.lt_of_lt_of_le HBW.out HG.out))).trans cx2
                     clear h1 h2))
                all_goals (
                  go_wp2_with fail
                  go_roundw
                  case rel => exact ⟨k3 + 1, by omega, by go_num, by rw [HNE.out]; have := HR7.out; simpa using this, H7.out⟩
                  case measure => simp [intOf]; omega)
            · have hk3l : k3 = k := by omega
              subst hk3l
              have hall : xs.take k3 = xs := List.take_of_length_le (by rw [HI.out.hlen]; exact Nat.le_refl _)
              rw [hall] at HR
              clear hall
              go_wp2_with fail
              go_loopw [12] (fun i wr4 => ∃ k4 : Nat, k4 ≤ k2 ∧ i = .int .i64 (k4 : Int) ∧ Rd wr4 g S (((ezs xs).length + (ets (ts.take k4)).length : Nat) : Int) 0 ∧ Below w.heap.size w wr4) (fun i _ => k2 - (intOf i).toNat)
              case atStart => exact ⟨0, Nat.zero_le _, rfl, by simpa [ets] using HR.out, HU3.out⟩
              case round =>
                obtain ⟨k4, hk4, rfl, hR, hU4⟩ := hrel
                have HR4 := Lib.hid hR
                have HU4 := Lib.hid hU4
                clear hR hU4
                by_cases hlt4 : k4 < k2
                · obtain ⟨t, ht⟩ : ∃ t, ts[k4]? = some t := ⟨ts[k4]'(by rw [HS.out.hlen]; exact hlt4), List.getElem?_eq_getElem _⟩
                  obtain ⟨rfl, hbw⟩ := HS.out.addr (by omega)
                  have HX := Lib.hid ht
                  have HBW := Lib.hid hbw
                  have cx := (HS.out.below HU4.out).cell k4 t ht
                  have hki : (k4 : Int) < (k2 : Int) := by omega
                  have hts := HSM.out t (List.mem_of_getElem? ht)
                  have HAT := Lib.hid (ets_at ht (ezs xs) ms)
                  clear ht hbw
                  have HRT := Lib.hid (show rt (S.data.toList.drop ((ezs xs).length + (ets (ts.take k4)).length)) = (t.size, (enc t.size).length, 0) by
                    rw [HSL.out, List.append_assoc, HAT.out]; exact rt_enct t hts _)
                  have HNE := Lib.hid (show (ezs xs).length + (ets (ts.take (k4 + 1))).length = (ezs xs).length + (ets (ts.take k4)).length + (enc t.size).length + t.size by
                    have h2 : t.data.toList.length = t.size := Array.length_toList
                    rw [ets_snoc HX.out, List.length_append]; unfold enct; rw [List.length_append, h2]; omega)
                  have HPN := Lib.hid (show (ezs xs).length + (ets (ts.take k4)).length + (enc t.size).length + t.size ≤ S.size by
                    rw [← HNE.out, HZ.out, List.length_append, List.length_append]
                    have h6 : ets ts = ets (ts.take (k4 + 1)) ++ ets (ts.drop (k4 + 1)) := by unfold ets; rw [← List.flatMap_append, List.take_append_drop]
                    rw [h6, List.length_append]; omega)
                  have HTX := Lib.hid (show (⟨((S.data.toList.drop ((ezs xs).length + (ets (ts.take k4)).length + (enc t.size).length)).take t.size).toArray⟩ : ByteArray) = t by
                    have h2 : t.data.toList.length = t.size := Array.length_toList
                    rw [← List.drop_drop, HSL.out, List.append_assoc, HAT.out]
                    unfold enct
                    rw [List.append_assoc, List.drop_left, ← h2, List.take_left])
                  go_wp2_with fail
                  have HRD : Hid (Rd wr.drew g S (((ezs xs).length + (ets (ts.take k4)).length : Nat) : Int) 0) := Lib.hid (Blk.drew HR4.out)
                  have cx2 : wr.drew.cell? ⟨b1, o1 + k4, none⟩ = some (.string t) := cx
                  go_region_held (fun w' => w'.cell? ⟨b1, o1 + k4, none⟩ = some (.string t)) (assumption) (first
                    | (go_at_call 13
                       (with_reducible refine (text_ok HRD.out (Nat.le_trans HZ2.out (by omega)) (Nat.le_trans (Nat.le_add_right _ _) (Nat.le_trans (Nat.le_add_right _ _) HPN.out)) HRT.out HPN.out (Int.le_refl _)).mono ?_)
                       rintro _ w8 ⟨rfl, h1, h2⟩
                       rw [HTX.out]
                       have HR8 := Lib.hid h1
                       have H8 := Lib.hid (HU4.out.drew.trans (h2.mono HG.out))
                       have cx3 : w8.cell? ⟨b1, o1 + k4, none⟩ = some (.string t) := (World.cell?_of_block (h2.block b1 (Nat.lt_of_lt_of_le HBW.out HG.out))).trans cx2
                       clear h1 h2))
                  all_goals (
                    go_wp2_with fail
                    go_roundw
                    case rel => exact ⟨k4 + 1, by omega, by go_num, by rw [HNE.out]; have := HR8.out; simpa using this, H8.out⟩
                    case measure => simp [intOf]; omega)
                · have hk4l : k4 = k2 := by omega
                  subst hk4l
                  have hall : ts.take k4 = ts := List.take_of_length_le (by rw [HS.out.hlen]; exact Nat.le_refl _)
                  rw [hall] at HR4
                  clear hall
                  have hlf : (S.size : Int) - (((ezs xs).length + (ets ts).length : Nat) : Int) = (len2 : Int) := by
                    rw [HZ.out, List.length_append, List.length_append, HML.out]; omega
                  have HLF := Lib.hid hlf
                  have hbd : (((ezs xs).length + (ets ts).length : Nat) : Int) ≤ S.size := by omega
                  have HBD := Lib.hid hbd
                  clear hlf hbd
                  rcases Nat.eq_zero_or_pos k4 with hz | hp
                  · subst hz
                    go_wp2_with (first
                      | (go_at_call 14
                         refine (err_any HR4.out).mono ?_
                         rintro _ w9 ⟨rfl, h1⟩
                         have HR9 : Hid (Rd w9 g S (((ezs xs).length + (ets ts).length : Nat) : Int) 0) := Lib.hid (Blk.below HR4.out h1 (Blk.lt HR4.out))
                         have H9 := Lib.hid (HU4.out.trans (h1.mono HU4.out.size))
                         clear h1)
                      | (go_at_call 15
                         refine (left_any HR9.out (by omega) HBD.out (Nat.le_trans HZ2.out (by omega))).mono ?_
                         rintro _ w10 ⟨rfl, h1⟩
                         rw [HLF.out]
                         have H10 := Lib.hid (H9.out.trans (h1.mono H9.out.size))
                         clear h1)
                      | (go_at_call 6; refine (CF.out _).mono ?_; rintro _ w11 ⟨rfl, h1⟩; have H11 := Lib.hid (H10.out.trans (h1.mono H10.out.size)); clear h1)
                      | fail)
                    go_ret
                    exact ⟨rfl, H11.out⟩
                  · obtain ⟨t, ht⟩ : ∃ t, ts[0]? = some t := ⟨ts[0]'(by rw [HS.out.hlen]; exact hp), List.getElem?_eq_getElem _⟩
                    obtain ⟨rfl, hbw⟩ := HS.out.addr (by omega)
                    have hts := HSM.out t (List.mem_of_getElem? ht)
                    have HX := Lib.hid ht
                    have hp2 : (0 : Int) < (k4 : Int) := by omega
                    have hnz : ((k4 : Int) == 0) = false := by simp; omega
                    clear ht hbw
                    go_wp2_with (first
                      | (go_at_call 14
                         refine (err_any HR4.out).mono ?_
                         rintro _ w9 ⟨rfl, h1⟩
                         have HR9 : Hid (Rd w9 g S (((ezs xs).length + (ets ts).length : Nat) : Int) 0) := Lib.hid (Blk.below HR4.out h1 (Blk.lt HR4.out))
                         have H9 := Lib.hid (HU4.out.trans (h1.mono HU4.out.size))
                         clear h1 HR4)
                      | (go_at_call 15
                         refine (left_any HR9.out (by omega) HBD.out (Nat.le_trans HZ2.out (by omega))).mono ?_
                         rintro _ w10 ⟨rfl, h1⟩
                         rw [HLF.out]
                         have H10 := Lib.hid (H9.out.trans (h1.mono H9.out.size))
                         have cx := (HS.out.below H10.out).cell 0 t HX.out
                         rw [Nat.add_zero] at cx
                         clear h1)
                      | (go_at_call 8
                         refine (text_any (nil_byt _) (by omega) t (by omega)).mono ?_
                         rintro _ w11 ⟨v11, rfl, h1, h2⟩
                         rw [List.nil_append] at h1
                         have H11 := Lib.hid (H10.out.trans (h2.mono H10.out.size))
                         obtain ⟨A9, L9, cap9, b9, rfl, hL9, hLc9, _, hb9⟩ := h1.bytL
                         obtain ⟨m, rfl⟩ : ∃ m, L9 = m + 1 := ⟨L9 - 1, by rw [hL9]; unfold enct enc; split <;> simp⟩
                         obtain ⟨rfl, _⟩ := hb9.addr (by omega)
                         have HB9 := Lib.hid (hb9.first m (by omega))
                         have HL9 := Lib.hid hL9
                         have hq9 : (m : Int) ≤ (cap9 : Int) := by omega
                         have hm9 : m ≤ 400 := by have := enct_length hts; omega
                         clear h1 h2 hL9 hb9)
                      | (go_at_call 11
                         refine (read_any HB9.out).mono ?_
                         rintro _ w12 ⟨rfl, h1, h2⟩
                         have HR12 := Lib.hid h1
                         have HG12 := Lib.hid H11.out.size
                         have H12 := Lib.hid (H11.out.trans (h2.mono H11.out.size))
                         generalize w11.heap.size = g12 at *
                         clear h1 h2)
                      | (go_at_call 13
                         refine (cut_call t hts m HL9.out HR12.out).mono ?_
                         rintro _ w13 ⟨rfl, h1, h2⟩
                         have HR13 := Lib.hid h1
                         have H13 := Lib.hid (H12.out.trans (h2.mono HG12.out))
                         clear h1 h2)
                      | (go_at_call 14
                         refine (err_any HR13.out).mono ?_
                         rintro _ w14 ⟨rfl, h1⟩
                         have H14 := Lib.hid (H13.out.trans (h1.mono H13.out.size))
                         clear h1)
                      | fail)
                    go_ret
                    exact ⟨rfl, H14.out⟩
set_option maxHeartbeats 4000000 in
theorem back_big (w : World) (A0 : Option Addr) (len0 cap0 : Nat) (A1 : Option Addr) (len1 cap1 : Nat) (A2 : Option Addr) (len2 cap2 : Nat) (h1 : (decide (20 < (len0 : Int)) || decide (10 < (len1 : Int))) = true) :
    Calls Try.prog 4 #[.slice A0 len0 cap0, .slice A1 len1 cap1, .slice A2 len2 cap2] w fun e w' => e = .returned (.bool true) ∧ Below w.heap.size w w' := by
  have CF := Lib.hid first_any
  have H0 := Lib.hid (Below.refl w.heap.size w)
  go_enter Try.func4, Try.ntmps4
  go_wp2_with (go_at_call 6; refine (CF.out _).mono ?_; rintro _ w1 ⟨rfl, h1⟩; have H0 := Lib.hid (H0.out.trans (h1.mono H0.out.size)); clear h1)
  all_goals (try (go_ret; exact ⟨rfl, Hid.out ‹Hid (Below w.heap.size w _)›⟩))
set_option maxHeartbeats 4000000 in
theorem back_big2 (w : World) (A0 : Option Addr) (len0 cap0 : Nat) (A1 : Option Addr) (len1 cap1 : Nat) (A2 : Option Addr) (len2 cap2 : Nat) (h1 : (decide (20 < (len0 : Int)) || decide (10 < (len1 : Int))) = false) (h2 : 20 < (len2 : Int)) :
    Calls Try.prog 4 #[.slice A0 len0 cap0, .slice A1 len1 cap1, .slice A2 len2 cap2] w fun e w' => e = .returned (.bool true) ∧ Below w.heap.size w w' := by
  have CF := Lib.hid first_any
  have H0 := Lib.hid (Below.refl w.heap.size w)
  go_enter Try.func4, Try.ntmps4
  go_wp2_with (go_at_call 6; refine (CF.out _).mono ?_; rintro _ w1 ⟨rfl, h1⟩; have H0 := Lib.hid (H0.out.trans (h1.mono H0.out.size)); clear h1)
  all_goals (try omega)
  all_goals (try (go_ret; exact ⟨rfl, Hid.out ‹Hid (Below w.heap.size w _)›⟩))
theorem packBack_walk (w : World) (A0 : Option Addr) (len0 cap0 : Nat) (S0 : Sh.ok w (Sh.slice 1 (Sh.int .i64)) [.slice A0 len0 cap0]) (A1 : Option Addr) (len1 cap1 : Nat) (S1 : Sh.ok w (Sh.slice 1 Sh.str) [.slice A1 len1 cap1]) (A2 : Option Addr) (len2 cap2 : Nat) (S2 : Sh.ok w (Sh.slice 1 (Sh.int .u8)) [.slice A2 len2 cap2]) :
    Calls Try.prog 4 #[.slice A0 len0 cap0, .slice A1 len1 cap1, .slice A2 len2 cap2] w fun e w' => e = .returned (.bool true) ∧ Below w.heap.size w w' := by
  obtain ⟨_, _, hc0, _⟩ := slice_at S0 (by omega)
  obtain ⟨_, _, hc1, _⟩ := slice_at S1 (by omega)
  obtain ⟨b0, o0, xs, h0⟩ := ints_open S0
  obtain ⟨b1, o1, ts, h1⟩ := strs_open S1
  obtain ⟨b2, o2, ms, h2⟩ := byt_open S2
  rcases Bool.eq_false_or_eq_true (decide (20 < (len0 : Int)) || decide (10 < (len1 : Int))) with hb | hb
  · exact back_big w A0 len0 cap0 A1 len1 cap1 A2 len2 cap2 hb
  · by_cases hl2 : 20 < (len2 : Int)
    · exact back_big2 w A0 len0 cap0 A1 len1 cap1 A2 len2 cap2 hb hl2
    · have hb2 : ¬ 20 < (len0 : Int) ∧ ¬ 10 < (len1 : Int) := by simpa using hb
      exact back_go w A0 len0 cap0 b0 o0 xs h0 (by omega) A1 len1 cap1 b1 o1 ts h1 (by omega) A2 len2 cap2 b2 o2 ms h2 (by omega) (by omega) (by omega)
end Go.Proofs.Ytcaimaeikedhoaa
