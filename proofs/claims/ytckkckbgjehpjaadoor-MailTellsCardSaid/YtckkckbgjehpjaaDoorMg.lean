/- Addresses: the reference's Mail. -/
import Derived.Test.YtckkckbgjehpjaaDoorMf
import Derived.Deep.RegionWith
namespace Go.Proofs.YtckkckbgjehpjaaDoor
open Go.RowKit
open Go.Lib hiding intOf
set_option linter.unusedVariables false
set_option maxRecDepth 20000
def atR (t : ByteArray) (k : Nat) : Int := if lastK t.data.toList k = -1 then (t.size : Int) else lastK t.data.toList k
theorem mail_no (l : List UInt8) (h : (64 : UInt8) ∉ l) : mailB l = false := by
  unfold mailB
  rw [cut_not l 64 h]; rfl
theorem low_at (c : UInt8) (h : low c = 64) : c = 64 := by
  unfold low at h
  split at h
  next hc =>
    have h1 : (UInt8.ofNat (c.toNat + 32)).toNat = c.toNat + 32 := by rw [UInt8.toNat_ofNat']; omega
    rw [h] at h1
    have h2 : (64 : UInt8).toNat = 64 := rfl
    omega
  next => exact h
set_option maxHeartbeats 8000000 in
theorem rmail_any (s : ByteArray) (hs : s.size ≤ 1000000) (w : World) : Calls Tryd.prog 8 #[.string s] w fun e w' => e = .returned (.tuple #[.string (mailS s).1, .int .i64 (mailS s).2]) ∧ Below w.heap.size w w' := by
  have hC := rclean_any s hs w
  have htz := clean_le s hs
  obtain ⟨r, hr⟩ : ∃ r, mailS s = r := ⟨_, rfl⟩
  rw [hr]
  have hrr : r = mailOf (cleanS s).1 (cleanS s).2 := by rw [← hr]; rfl
  clear hr
  obtain ⟨⟨t, k⟩, ht⟩ : ∃ t, cleanS s = t := ⟨_, rfl⟩
  rw [ht] at hC htz hrr
  simp only at hC htz hrr
  have HC := Lib.hid hC
  have HR := Lib.hid (show r = if k = 0 then (if mailB (lowAt t).data.toList = true then (lowAt t, 0) else (⟨#[]⟩, 1)) else (⟨#[]⟩, k) from hrr)
  have htI : (t.size : Int) ≤ 64 := by omega
  have htl : t.data.toList.length = t.size := by simp
  have HTL := Lib.hid htl
  have HLS := Lib.hid (last_split t.data.toList)
  have HKR := Lib.hid (fun k => lastK_range t.data.toList k)
  have HST := Lib.hid (fun k (h : k < t.size) => show atR t (k + 1) = if (t[k].toNat : Int) = 64 then (k : Int) else atR t k by
    have e : t.data.toList.getD k 0 = t[k] := getD_at t k h
    unfold atR
    show (if (if t.data.toList.getD k 0 = 64 then (k : Int) else lastK t.data.toList k) = -1 then (t.size : Int) else (if t.data.toList.getD k 0 = 64 then (k : Int) else lastK t.data.toList k)) = _
    rw [e]
    by_cases hc : t[k] = 64
    · rw [if_pos hc, if_pos (show (t[k].toNat : Int) = 64 by rw [hc]; rfl), if_neg (by omega)]
    · rw [if_neg hc, if_neg (show ¬ (t[k].toNat : Int) = 64 from fun e2 => hc (UInt8.toNat_inj.1 (by show t[k].toNat = 64; omega)))])
  have HF := Lib.hid rfold_any
  have HI := Lib.hid risMail_any
  have HB0 := Lib.hid (Below.refl w.heap.size w)
  clear hC ht hrr htl
  by_cases hk : k = 0
  · subst hk
    have HR2 := Lib.hid (show r = if mailB (lowAt t).data.toList = true then (lowAt t, 0) else (⟨#[]⟩, 1) by rw [HR.out]; rfl)
    clear HR
    go_enter Tryd.func8, Tryd.ntmps8
    go_wp2_with (go_at_call 20; (with_reducible refine (HC.out).mono ?_); rintro e v1 ⟨rfl, hb⟩; have HB1 := Lib.hid hb; clear hb)
    go_loop [6, 7] (fun a' i => ∃ k : Nat, k ≤ t.size ∧ i = .int .i64 (k : Int) ∧ a' = .int .i64 (atR t k)) (fun _ i => t.size - (intOf i).toNat)
    case atStart => exact ⟨0, Nat.zero_le _, rfl, rfl⟩
    case round =>
      obtain ⟨k, hk, rfl, rfl⟩ := hrel
      by_cases hlt : k < t.size
      · have HS1 := Lib.hid (HST.out k hlt)
        obtain ⟨c, hc⟩ : ∃ c, t[k] = c := ⟨_, rfl⟩
        rw [hc] at HS1
        have hc8 : (c.toNat : Int) ≤ 255 := by have := c.toNat_lt; omega
        obtain ⟨A, hA⟩ : ∃ A, atR t k = A := ⟨_, rfl⟩
        rw [hA] at HS1 ⊢
        clear hA
        by_cases m1 : (c.toNat : Int) = 64
        · have m1' : ((c.toNat : Int) == 64) = true := by rw [m1]; rfl
          have HE := Lib.hid (show (k : Int) = atR t (k + 1) by rw [HS1.out, if_pos m1])
          clear m1
          go_wp2
          exact ⟨⟨k + 1, by omega, by go_num, by rw [← HE.out]⟩, by simp [intOf]; omega⟩
        · have m1' : ((c.toNat : Int) == 64) = false := by simpa using m1
          have HE := Lib.hid (show A = atR t (k + 1) by rw [HS1.out, if_neg m1])
          clear m1
          go_wp2
          exact ⟨⟨k + 1, by omega, by go_num, by rw [← HE.out]⟩, by simp [intOf]; omega⟩
      · have hks : k = t.size := by omega
        subst hks
        obtain ⟨n, hn, hle, C, hCz, hCC, hCr⟩ : ∃ n : Nat, atR t t.size = (n : Int) ∧ n ≤ t.size ∧ ∃ C : ByteArray, C.size ≤ 64 ∧ t.extract 0 n ++ lowS (t.extract n t.size) = C ∧ r = if mailB C.data.toList = true then (C, 0) else (⟨#[]⟩, 1) := by
          have hfs : ∀ x : ByteArray, (lowS x).size = x.size := by
            intro x
            show (lowL x.data.toList).toArray.size = _
            unfold lowL; simp
          have hz : ∀ n, n ≤ t.size → (t.extract 0 n ++ lowS (t.extract n t.size)).size ≤ 64 := by
            intro n hn
            rw [ByteArray.size_append, hfs, ByteArray.size_extract, ByteArray.size_extract]; omega
          have h := HLS.out
          rw [HTL.out] at h
          rcases h with ⟨h1, h2⟩ | ⟨a, b, e, hb, h1⟩
          · refine ⟨t.size, by unfold atR; rw [if_pos h1], Nat.le_refl _, _, hz _ (Nat.le_refl _), rfl, ?_⟩
            have hx : (t.extract 0 t.size ++ lowS (t.extract t.size t.size)).data.toList = t.data.toList := by
              rw [app_list]
              have h3 : (t.extract 0 t.size).data.toList = t.data.toList := by simp
              have h4 : (lowS (t.extract t.size t.size)).data.toList = [] := by
                show lowL (t.extract t.size t.size).data.toList = []
                have : (t.extract t.size t.size).data.toList = [] := by simp
                rw [this]; rfl
              rw [h3, h4, List.append_nil]
            have : (64 : UInt8) ∉ (lowAt t).data.toList := by
              unfold lowAt
              rw [app_list]
              intro hm
              rcases List.mem_append.1 hm with hm | hm
              · have h3 : (t.extract 0 (atN t)).data.toList = t.data.toList.take (atN t) := by simp
                rw [h3] at hm
                exact h2 (List.mem_of_mem_take hm)
              · have hm2 : (64 : UInt8) ∈ lowL (t.extract (atN t) t.size).data.toList := hm
                unfold lowL at hm2
                obtain ⟨d, hd, e⟩ := List.mem_map.1 hm2
                have h3 : (t.extract (atN t) t.size).data.toList = t.data.toList.drop (atN t) := by simp [List.take_of_length_le]
                rw [h3] at hd
                rw [low_at d e] at hd
                exact h2 (List.mem_of_mem_drop hd)
            rw [HR2.out, hx, mail_no _ h2, mail_no _ this]
            exact (if_neg Bool.false_ne_true).trans (if_neg Bool.false_ne_true).symm
          · have hal : a.length ≤ t.size := by have := HTL.out; rw [e] at this; simp at this; omega
            refine ⟨a.length, by unfold atR; rw [if_neg (by rw [h1]; omega), h1], hal, _, hz _ hal, rfl, ?_⟩
            have hx : t.extract 0 a.length ++ lowS (t.extract a.length t.size) = lowAt t := bs_ext (by
              rw [lowAt_spec t a b e hb, app_list]
              have h3 : (t.extract 0 a.length).data.toList = a := by
                have : (t.extract 0 a.length).data.toList = t.data.toList.take a.length := by simp
                rw [this, e]; simp
              have h4 : (lowS (t.extract a.length t.size)).data.toList = 64 :: lowL b := by
                show lowL (t.extract a.length t.size).data.toList = _
                have : (t.extract a.length t.size).data.toList = t.data.toList.drop a.length := by simp [List.take_of_length_le]
                rw [this, e, List.drop_left]; rfl
              rw [h3, h4])
            rw [hx]; exact HR2.out
        rw [hn]
        have HFn := Lib.hid (fun w => HF.out (t.extract n t.size) (by rw [ByteArray.size_extract]; omega) w)
        have huz : ((lowS (t.extract n t.size)).size : Int) ≤ 64 := by
          have : (lowS (t.extract n t.size)).size = (t.extract n t.size).size := by
            show (lowL (t.extract n t.size).data.toList).toArray.size = _
            unfold lowL; simp
          rw [this, ByteArray.size_extract]; omega
        have hxz : ((t.extract 0 n).size : Int) ≤ 64 := by rw [ByteArray.size_extract]; omega
        have HIC := Lib.hid (fun w => HI.out C (by omega) w)
        obtain ⟨u, hu⟩ : ∃ u, lowS (t.extract n t.size) = u := ⟨_, rfl⟩
        rw [hu] at HFn huz hCC
        obtain ⟨b, hb⟩ : ∃ b, mailB C.data.toList = b := ⟨_, rfl⟩
        rw [hb] at HIC hCr
        have HCr := Lib.hid hCr
        have HFo : Hid (∀ v, Below w.heap.size w v → Calls Tryd.prog 21 #[.string (t.extract n t.size)] v fun e v' => e = .returned (.string u) ∧ Below w.heap.size w v') :=
          Lib.hid fun v h => (HFn.out v).mono (by rintro e v' ⟨rfl, h2⟩; exact ⟨rfl, h.trans (h2.mono h.size)⟩)
        have HIo : Hid (∀ v, Below w.heap.size w v → Calls Tryd.prog 12 #[.string C] v fun e v' => e = .returned (.bool b) ∧ Below w.heap.size w v') :=
          Lib.hid fun v h => (HIC.out v).mono (by rintro e v' ⟨rfl, h2⟩; exact ⟨rfl, h.trans (h2.mono h.size)⟩)
        have hleI : (n : Int) ≤ (t.size : Int) := by omega
        have hnn : 0 ≤ (n : Int) := by omega
        clear hCr hu hb hn hCz hlt hk
        cases b with
        | true =>
          have H0 := Lib.hid (show r = (C, 0) by rw [HCr.out, if_pos rfl])
          go_wp2
          go_region_with (go_at_call 21; (with_reducible refine (HFo.out _ (by first | exact HB1.out | exact HB1.out.drew | exact HB1.out.drew.drew)).mono ?_); rintro e v3 ⟨rfl, hb⟩; have HB3 := Lib.hid hb; clear hb)
          go_wp2_with (go_at_call 12; (with_reducible refine (HIo.out _ HB3.out).mono ?_); rintro e v4 ⟨rfl, hb⟩; have HB4 := Lib.hid hb; clear hb)
          go_ret2
          exact ⟨by rw [H0.out]; rfl, HB4.out⟩
        | false =>
          have H0 := Lib.hid (show r = (⟨#[]⟩, 1) by rw [HCr.out]; rfl)
          go_wp2
          go_region_with (go_at_call 21; (with_reducible refine (HFo.out _ (by first | exact HB1.out | exact HB1.out.drew | exact HB1.out.drew.drew)).mono ?_); rintro e v3 ⟨rfl, hb⟩; have HB3 := Lib.hid hb; clear hb)
          go_wp2_with (go_at_call 12; (with_reducible refine (HIo.out _ HB3.out).mono ?_); rintro e v4 ⟨rfl, hb⟩; have HB4 := Lib.hid hb; clear hb)
          go_ret2
          exact ⟨by rw [H0.out]; rfl, HB4.out⟩
  · have hk' : (k != 0) = true := by simpa using hk
    have H0 := Lib.hid (show r = (⟨#[]⟩, k) by rw [HR.out, if_neg hk])
    clear hk
    go_enter Tryd.func8, Tryd.ntmps8
    go_wp2_with (go_at_call 20; (with_reducible refine (HC.out).mono ?_); rintro e w1 ⟨rfl, h1⟩; have HB1 := Lib.hid h1; clear h1)
    go_ret2
    exact ⟨by rw [H0.out]; rfl, HB1.out⟩
end Go.Proofs.YtckkckbgjehpjaaDoor
