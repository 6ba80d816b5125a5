/- Texts of one proof, joined. -/
import Derived.Test.YtphijnkiiokieaaGreatDoorZay
set_option linter.unusedVariables false
set_option linter.unusedSimpArgs false
set_option maxRecDepth 100000
set_option maxHeartbeats 80000000
namespace Go.Proofs.YtphijnkiiokieaaGreatDoor
open Go.RowKit
open Go.Lib hiding intOf
def atR (t : ByteArray) (k : Nat) : Int := if lastK t.data.toList k = -1 then (t.size : Int) else lastK t.data.toList k
theorem mail_no (l : List UInt8) (h : (64 : UInt8) ∉ l) : mailB l = false := by
 unfold mailB
 rw [cut_not l 64 h]; rfl
theorem low_at (c : UInt8) (h : low c = 64) : c = 64 := by
 unfold low at h
 split at h
 next hc =>
  have h1 : (UInt8.ofNat (c.toNat + 32)).toNat = c.toNat + 32 := by rw [UInt8.toNat_ofNat']; omega
  rw [h] at h1; have h2 : (64 : UInt8).toNat = 64 := rfl
  omega
 next => exact h
theorem rmail_any (s : ByteArray) (hs : s.size ≤ 1000000) (w : World) : Calls Tryz.prog 121 #[.string s] w fun e w' => e = .returned (.tuple #[.string (mailS s).1, .int .i64 (mailS s).2]) ∧ Below w.heap.size w w' := by
 have hC := rclean_any s hs w; have htz := clean_le s hs; obtain ⟨r, hr⟩ : ∃ r, mailS s = r := ⟨_, rfl⟩; rw [hr]; have hrr : r = mailOf (cleanS s).1 (cleanS s).2 := by rw [← hr]; rfl
 clear hr; obtain ⟨⟨t, k⟩, ht⟩ : ∃ t, cleanS s = t := ⟨_, rfl⟩; rw [ht] at hC htz hrr; simp only at hC htz hrr; have HC := Zh hC; have HR := Zh (show r = if k = 0 then (if mailB (lowAt t).data.toList = true then (lowAt t, 0) else (⟨#[]⟩, 1)) else (⟨#[]⟩, k) from hrr); have htI : (t.size : Int) ≤ 64 := by omega
 have htl : t.data.toList.length = t.size := by simp
 have HTL := Zh htl; have HLS := Zh (last_split t.data.toList); have HKR := Zh (fun k => lastK_range t.data.toList k); have HST := Zh (fun k (h : k < t.size) => show atR t (k + 1) = if (t[k].toNat : Int) = 64 then (k : Int) else atR t k by
  have e : t.data.toList.getD k 0 = t[k] := getD_at t k h
  unfold atR
  show (if (if t.data.toList.getD k 0 = 64 then (k : Int) else lastK t.data.toList k) = -1 then (t.size : Int) else (if t.data.toList.getD k 0 = 64 then (k : Int) else lastK t.data.toList k)) = _
  rw [e]
  by_cases hc : t[k] = 64
  ·
   rw [if_pos hc, if_pos (show (t[k].toNat : Int) = 64 by rw [hc]; rfl), if_neg (by omega)]
  ·
   rw [if_neg hc, if_neg (show ¬ (t[k].toNat : Int) = 64 from fun e2 => hc (UInt8.toNat_inj.1 (by show t[k].toNat = 64; omega)))])
 have HF := Zh rfold_any; have HI := Zh risMail_any; have HB0 := Zh (Below.refl w.heap.size w); clear hC ht hrr htl
 by_cases hk : k = 0
 ·
  subst hk; have HR2 := Zh (show r = if mailB (lowAt t).data.toList = true then (lowAt t, 0) else (⟨#[]⟩, 1) by rw [HR.out]; rfl); clear HR
  go_enter Tryz.func121, Tryz.ntmps121
  go_wp2_with (go_at_call 122; (with_reducible refine (HC.out).mono ?_); rintro e v1 ⟨rfl, hb⟩; have HB1 := Zh hb; clear hb)
  go_loop [6, 7] (fun a' i => ∃ k : Nat, k ≤ t.size ∧ i = .int .i64 (k : Int) ∧ a' = .int .i64 (atR t k)) (fun _ i => t.size - (intOf i).toNat)
  case atStart => exact ⟨0, Nat.zero_le _, rfl, rfl⟩
  case round =>
   obtain ⟨k, hk, rfl, rfl⟩ := hrel
   by_cases hlt : k < t.size
   ·
    have HS1 := Zh (HST.out k hlt); obtain ⟨c, hc⟩ : ∃ c, t[k] = c := ⟨_, rfl⟩; rw [hc] at HS1; have hc8 : (c.toNat : Int) ≤ 255 := by have := c.toNat_lt; omega
    obtain ⟨A, hA⟩ : ∃ A, atR t k = A := ⟨_, rfl⟩; rw [hA] at HS1 ⊢; clear hA
    by_cases m1 : (c.toNat : Int) = 64
    ·
     have m1' : ((c.toNat : Int) == 64) = true := by rw [m1]; rfl
     have HE := Zh (show (k : Int) = atR t (k + 1) by rw [HS1.out, if_pos m1]); clear m1
     go_wp2
     exact ⟨⟨k + 1, by omega, by go_num, by rw [← HE.out]⟩, by simp [intOf]; omega⟩
    ·
     have m1' : ((c.toNat : Int) == 64) = false := by simpa using m1
     have HE := Zh (show A = atR t (k + 1) by rw [HS1.out, if_neg m1]); clear m1
     go_wp2
     exact ⟨⟨k + 1, by omega, by go_num, by rw [← HE.out]⟩, by simp [intOf]; omega⟩
   ·
    have hks : k = t.size := by omega
    subst hks; obtain ⟨n, hn, hle, C, hCz, hCC, hCr⟩ : ∃ n : Nat, atR t t.size = (n : Int) ∧ n ≤ t.size ∧ ∃ C : ByteArray, C.size ≤ 64 ∧ t.extract 0 n ++ lowS (t.extract n t.size) = C ∧ r = if mailB C.data.toList = true then (C, 0) else (⟨#[]⟩, 1) := by
     have hfs : ∀ x : ByteArray, (lowS x).size = x.size := by
      intro x
      show (lowL x.data.toList).toArray.size = _
      unfold lowL; simp
     have hz : ∀ n, n ≤ t.size → (t.extract 0 n ++ lowS (t.extract n t.size)).size ≤ 64 := by
      intro n hn
      rw [ByteArray.size_append, hfs, ByteArray.size_extract, ByteArray.size_extract]; omega
     have h := HLS.out; rw [HTL.out] at h
     rcases h with ⟨h1, h2⟩ | ⟨a, b, e, hb, h1⟩
     ·
      refine ⟨t.size, by unfold atR; rw [if_pos h1], Nat.le_refl _, _, hz _ (Nat.le_refl _), rfl, ?_⟩; have hx : (t.extract 0 t.size ++ lowS (t.extract t.size t.size)).data.toList = t.data.toList := by
       rw [app_list]; have h3 : (t.extract 0 t.size).data.toList = t.data.toList := by simp
       have h4 : (lowS (t.extract t.size t.size)).data.toList = [] := by
        show lowL (t.extract t.size t.size).data.toList = []
        have : (t.extract t.size t.size).data.toList = [] := by simp
        rw [this]; rfl
       rw [h3, h4, List.append_nil]
      have : (64 : UInt8) ∉ (lowAt t).data.toList := by
       unfold lowAt
       rw [app_list]; intro hm
       rcases List.mem_append.1 hm with hm | hm
       ·
        have h3 : (t.extract 0 (atN t)).data.toList = t.data.toList.take (atN t) := by simp
        rw [h3] at hm
        exact h2 (List.mem_of_mem_take hm)
       ·
        have hm2 : (64 : UInt8) ∈ lowL (t.extract (atN t) t.size).data.toList := hm
        unfold lowL at hm2
        obtain ⟨d, hd, e⟩ := List.mem_map.1 hm2; have h3 : (t.extract (atN t) t.size).data.toList = t.data.toList.drop (atN t) := by simp [List.take_of_length_le]
        rw [h3] at hd; rw [low_at d e] at hd
        exact h2 (List.mem_of_mem_drop hd)
      rw [HR2.out, hx, mail_no _ h2, mail_no _ this]
      exact (if_neg Bool.false_ne_true).trans (if_neg Bool.false_ne_true).symm
     ·
      have hal : a.length ≤ t.size := by have := HTL.out; rw [e] at this; simp at this; omega
      refine ⟨a.length, by unfold atR; rw [if_neg (by rw [h1]; omega), h1], hal, _, hz _ hal, rfl, ?_⟩; have hx : t.extract 0 a.length ++ lowS (t.extract a.length t.size) = lowAt t := bs_ext (by
       rw [lowAt_spec t a b e hb, app_list]; have h3 : (t.extract 0 a.length).data.toList = a := by
        have : (t.extract 0 a.length).data.toList = t.data.toList.take a.length := by simp
        rw [this, e]; simp
       have h4 : (lowS (t.extract a.length t.size)).data.toList = 64 :: lowL b := by
        show lowL (t.extract a.length t.size).data.toList = _
        have : (t.extract a.length t.size).data.toList = t.data.toList.drop a.length := by simp [List.take_of_length_le]
        rw [this, e, List.drop_left]; rfl
       rw [h3, h4])
      rw [hx]; exact HR2.out
    rw [hn]; have HFn := Zh (fun w => HF.out (t.extract n t.size) (by rw [ByteArray.size_extract]; omega) w); have huz : ((lowS (t.extract n t.size)).size : Int) ≤ 64 := by
     have : (lowS (t.extract n t.size)).size = (t.extract n t.size).size := by
      show (lowL (t.extract n t.size).data.toList).toArray.size = _
      unfold lowL; simp
     rw [this, ByteArray.size_extract]; omega
    have hxz : ((t.extract 0 n).size : Int) ≤ 64 := by rw [ByteArray.size_extract]; omega
    have HIC := Zh (fun w => HI.out C (by omega) w); obtain ⟨u, hu⟩ : ∃ u, lowS (t.extract n t.size) = u := ⟨_, rfl⟩; rw [hu] at HFn huz hCC; obtain ⟨b, hb⟩ : ∃ b, mailB C.data.toList = b := ⟨_, rfl⟩; rw [hb] at HIC hCr; have HCr := Zh hCr; have HFo : Hid (∀ v, Below w.heap.size w v → Calls Tryz.prog 134 #[.string (t.extract n t.size)] v fun e v' => e = .returned (.string u) ∧ Below w.heap.size w v') :=
     Zh fun v h => (HFn.out v).mono (by rintro e v' ⟨rfl, h2⟩; exact ⟨rfl, h.trans (h2.mono h.size)⟩)
    have HIo : Hid (∀ v, Below w.heap.size w v → Calls Tryz.prog 135 #[.string C] v fun e v' => e = .returned (.bool b) ∧ Below w.heap.size w v') :=
     Zh fun v h => (HIC.out v).mono (by rintro e v' ⟨rfl, h2⟩; exact ⟨rfl, h.trans (h2.mono h.size)⟩)
    have hleI : (n : Int) ≤ (t.size : Int) := by omega
    have hnn : 0 ≤ (n : Int) := by omega
    clear hCr hu hb hn hCz hlt hk
    cases b with
    | true =>
     have H0 := Zh (show r = (C, 0) by rw [HCr.out, if_pos rfl])
     go_wp2
     go_region_with (go_at_call 134; (with_reducible refine (HFo.out _ (by first | exact HB1.out | exact HB1.out.drew | exact HB1.out.drew.drew)).mono ?_); rintro e v3 ⟨rfl, hb⟩; have HB3 := Zh hb; clear hb)
     go_wp2_with (go_at_call 135; (with_reducible refine (HIo.out _ HB3.out).mono ?_); rintro e v4 ⟨rfl, hb⟩; have HB4 := Zh hb; clear hb)
     go_ret2
     exact ⟨by rw [H0.out]; rfl, HB4.out⟩
    | false =>
     have H0 := Zh (show r = (⟨#[]⟩, 1) by rw [HCr.out]; rfl)
     go_wp2
     go_region_with (go_at_call 134; (with_reducible refine (HFo.out _ (by first | exact HB1.out | exact HB1.out.drew | exact HB1.out.drew.drew)).mono ?_); rintro e v3 ⟨rfl, hb⟩; have HB3 := Zh hb; clear hb)
     go_wp2_with (go_at_call 135; (with_reducible refine (HIo.out _ HB3.out).mono ?_); rintro e v4 ⟨rfl, hb⟩; have HB4 := Zh hb; clear hb)
     go_ret2
     exact ⟨by rw [H0.out]; rfl, HB4.out⟩
 ·
  have hk' : (k != 0) = true := by simpa using hk
  have H0 := Zh (show r = (⟨#[]⟩, k) by rw [HR.out, if_neg hk]); clear hk
  go_enter Tryz.func121, Tryz.ntmps121
  go_wp2_with (go_at_call 122; (with_reducible refine (HC.out).mono ?_); rintro e w1 ⟨rfl, h1⟩; have HB1 := Zh h1; clear h1)
  go_ret2
  exact ⟨by rw [H0.out]; rfl, HB1.out⟩
end Go.Proofs.YtphijnkiiokieaaGreatDoor
/- Dates: small facts that the document's own dates ask. -/
namespace Go.Proofs.YtphijnkiiokieaaGreatDoor.Day
open Go.RowKit
set_option linter.unusedVariables false
set_option maxRecDepth 20000
theorem dim_val (y : Int) : dim y 1 = 31 ∧ dim y 3 = 31 ∧ dim y 4 = 30 ∧ dim y 5 = 31 ∧ dim y 6 = 30 ∧ dim y 7 = 31 ∧ dim y 8 = 31 ∧ dim y 9 = 30 ∧ dim y 10 = 31 ∧ dim y 11 = 30 ∧ dim y 12 = 31 := by simp [dim]
theorem dg_nat (n : Nat) : ((dg n).toNat : Int) = 48 + ((n % 10 : Nat) : Int) := by
  have h : (dg n).toNat = 48 + n % 10 := by unfold dg; rw [UInt8.toNat_ofNat']; omega
  omega
theorem dg_d (n : Nat) : isD (dg n) = true := by
  have := dg_nat n
  unfold isD; simp; omega
theorem num_dig2 (n : Nat) (h : n < 100) : numD (dig2 n) = (n : Int) := by
  have h1 := dg_nat n
  have h2 := dg_nat (n / 10)
  unfold numD dig2
  rw [if_pos (by simp [dg_d])]
  simp only [valD, List.foldl_cons, List.foldl_nil, h1, h2]
  omega
theorem num_dig4 (n : Nat) (h : n < 10000) : numD (dig4 n) = (n : Int) := by
  have h1 := dg_nat n
  have h2 := dg_nat (n / 10)
  have h3 := dg_nat (n / 100)
  have h4 := dg_nat (n / 1000)
  unfold numD dig4
  rw [if_pos (by simp [dg_d])]
  simp only [valD, List.foldl_cons, List.foldl_nil, h1, h2, h3, h4]
  omega
theorem prs_show {y m d : Int} (h : mayB y m d = true) : prs (showS y m d) = some (y, m, d) := by
  have hs : showS y m d = ⟨(showL y.toNat m.toNat d.toNat).toArray⟩ := by unfold showS; rw [if_pos h]
  obtain ⟨a1, a2, a3, a4, a5, a6⟩ := may_iff.1 h
  have a7 := (dim_bd y m).2
  have n2 := num_dig2 m.toNat (by omega)
  have n3 := num_dig2 d.toNat (by omega)
  have n4 := num_dig4 y.toNat (by omega)
  have em : ((m.toNat : Nat) : Int) = m := by omega
  have ed : ((d.toNat : Nat) : Int) = d := by omega
  have ey : ((y.toNat : Nat) : Int) = y := by omega
  rw [em] at n2
  rw [ed] at n3
  rw [ey] at n4
  have hl : (showS y m d).data.toList = showL y.toNat m.toNat d.toNat := by rw [hs]
  by_cases h0 : y.toNat = 0
  · have hy0 : y = 0 := by omega
    have hl2 : (showS y m d).data.toList = [45, 45] ++ (dig2 m.toNat ++ [45] ++ dig2 d.toNat) := by rw [hl]; unfold showL headL; rw [if_pos h0]; simp
    unfold prs
    rw [hl2, if_pos (by simp [Lib.hasPrefix])]
    have ht : Lib.trimPrefix ([45, 45] ++ (dig2 m.toNat ++ [45] ++ dig2 d.toNat)) [45, 45] = dig2 m.toNat ++ [45] ++ dig2 d.toNat := by simp [Lib.trimPrefix, Lib.hasPrefix]
    rw [ht]
    unfold rest3
    have e1 : (dig2 m.toNat ++ [45] ++ dig2 d.toNat).take 2 = dig2 m.toNat := rfl
    have e2 : (dig2 m.toNat ++ [45] ++ dig2 d.toNat).drop 3 = dig2 d.toNat := rfl
    simp only [e1, e2, n2, n3]
    subst hy0
    rw [if_pos ⟨rfl, h, rfl⟩]
  · have hl2 : (showS y m d).data.toList = dig4 y.toNat ++ ([45] ++ (dig2 m.toNat ++ [45] ++ dig2 d.toNat)) := by rw [hl]; unfold showL headL; rw [if_neg h0]; simp
    have hz : (showS y m d).size = 10 := by rw [bs_size, hl2]; rfl
    have hp : Lib.hasPrefix (dig4 y.toNat ++ ([45] ++ (dig2 m.toNat ++ [45] ++ dig2 d.toNat))) [45, 45] = false := by
      have := dg_nat (y.toNat / 1000)
      have hne : ((45 : UInt8) == dg (y.toNat / 1000)) = false := by
        rw [beq_eq_false_iff_ne]
        intro e
        rw [← e] at this
        have h45 : ((45 : UInt8).toNat : Int) = 45 := rfl
        omega
      unfold Lib.hasPrefix dig4
      simp only [List.cons_append, List.isPrefixOf, hne, Bool.false_and]
    unfold prs
    rw [hl2, if_neg (by rw [hp]; simp), if_neg (by omega)]
    unfold rest3
    have e0 : (dig4 y.toNat ++ ([45] ++ (dig2 m.toNat ++ [45] ++ dig2 d.toNat))).take 4 = dig4 y.toNat := rfl
    have er : ((showS y m d).extract 5 (showS y m d).size).data.toList = dig2 m.toNat ++ [45] ++ dig2 d.toNat := by rw [ext_drop, hl2]; rfl
    have e1 : (dig2 m.toNat ++ [45] ++ dig2 d.toNat).take 2 = dig2 m.toNat := rfl
    have e2 : (dig2 m.toNat ++ [45] ++ dig2 d.toNat).drop 3 = dig2 d.toNat := rfl
    have e3 : ((showS y m d).extract 5 (showS y m d).size).size = 5 := by rw [bs_size, er]; rfl
    simp only [e0, er, e1, e2, n2, n3, n4]
    rw [if_pos ⟨e3, h, trivial⟩]
theorem prs_some {s : ByteArray} {y m d : Int} (h : prs s = some (y, m, d)) : mayB y m d = true ∧ showS y m d = s := by
  unfold prs at h
  have key : ∀ (r : ByteArray) (y' : Int), rest3 s r y' = some (y, m, d) → mayB y m d = true ∧ showS y m d = s := by
    intro r y' h
    unfold rest3 at h
    split at h
    · next c =>
      simp only [Option.some.injEq, Prod.mk.injEq] at h
      obtain ⟨rfl, rfl, rfl⟩ := h
      exact c.2
    · cases h
  split at h
  · exact key _ _ h
  · split at h
    · cases h
    · exact key _ _ h
theorem show_size {y m d : Int} (h : mayB y m d = true) : (showS y m d).size = if y = 0 then 7 else 10 := by
  have h0 := (may_iff.1 h).1
  unfold showS
  rw [if_pos h]
  by_cases hy : y = 0
  · rw [if_pos hy]; subst hy; rfl
  · rw [if_neg hy]
    have : y.toNat ≠ 0 := by omega
    show (showL y.toNat m.toNat d.toNat).toArray.size = 10
    unfold showL headL
    rw [if_neg this]; rfl
/-- The law's own box, and nothing that was has turned. -/
theorem Blk3.at' {w : World} {B : Nat} {y m d : Int} (h : Blk w B 130 #[.int .i64 y, .int .i64 m, .int .i64 d]) : w.cell? ⟨B, 0, none⟩ = some (.int .i64 y) ∧ w.cell? ⟨B, 1, none⟩ = some (.int .i64 m) ∧ w.cell? ⟨B, 2, none⟩ = some (.int .i64 d) := ⟨h.cell 0, h.cell 1, h.cell 2⟩
end Go.Proofs.YtphijnkiiokieaaGreatDoor.Day
/- The document's own dates: leap years, months, days, two digits, how a date is shown. -/
namespace Go.Proofs.YtphijnkiiokieaaGreatDoor.Day
open Go.RowKit
set_option linter.unusedVariables false
set_option maxRecDepth 100000
attribute [local go_sem ↓] Go.wp_at_zero Go.wp_at_succ
theorem rleap_any (y : Int) (w : World) : Calls Tryz.prog 189 #[.int .i64 y] w fun e w' => e = .returned (.bool (leapB y)) ∧ w' = w := by
  by_cases h1 : 1 ≤ y
  · by_cases h2 : y ≤ 9999
    · have h0 : 0 ≤ y := by omega
      have e4 : y.tmod 4 = y % 4 := Int.tmod_eq_emod_of_nonneg h0
      have e100 : y.tmod 100 = y % 100 := Int.tmod_eq_emod_of_nonneg h0
      have e400 : y.tmod 400 = y % 400 := Int.tmod_eq_emod_of_nonneg h0
      by_cases c4 : y % 4 = 0
      · by_cases c100 : y % 100 = 0
        · by_cases c400 : y % 400 = 0
          · go_enter Tryz.func189, Tryz.ntmps189
            go_wp2
            go_ret
            exact ⟨ret_bool (by unfold leapB; simp; omega), rfl⟩
          · have d400 : (y % 400 == 0) = false := by simpa using c400
            go_enter Tryz.func189, Tryz.ntmps189
            go_wp2
            go_ret
            exact ⟨ret_bool (by unfold leapB; simp; omega), rfl⟩
        · have d100 : (y % 100 != 0) = true := by simpa using c100
          have d100' : (y % 100 == 0) = false := by simpa using c100
          go_enter Tryz.func189, Tryz.ntmps189
          go_wp2
          go_ret
          exact ⟨ret_bool (by unfold leapB; simp; omega), rfl⟩
      · have d4 : (y % 4 == 0) = false := by simpa using c4
        go_enter Tryz.func189, Tryz.ntmps189
        go_wp2
        go_ret
        exact ⟨ret_bool (by unfold leapB; simp; omega), rfl⟩
    · have d2 : decide (y ≤ 9999) = false := by simpa using h2
      go_enter Tryz.func189, Tryz.ntmps189
      go_wp2
      go_ret
      exact ⟨ret_bool (by unfold leapB; simp; omega), rfl⟩
  · have d1 : decide (1 ≤ y) = false := by simpa using h1
    go_enter Tryz.func189, Tryz.ntmps189
    go_wp2
    go_ret
    exact ⟨ret_bool (by unfold leapB; simp; omega), rfl⟩
set_option maxHeartbeats 4000000 in
theorem month_any (y m : Int) (h1 : 1 ≤ m) (h2 : m ≤ 12) (w : World) : Calls Tryz.prog 179 #[.int .i64 y, .int .i64 m] w fun e w' => e = .returned (.int .i64 (dim y m)) ∧ Below w.heap.size w w' := by
  obtain ⟨v1, v3, v4, v5, v6, v7, v8, v9, v10, v11, v12⟩ := dim_val y
  rcases (by omega : m = 1 ∨ m = 2 ∨ m = 3 ∨ m = 4 ∨ m = 5 ∨ m = 6 ∨ m = 7 ∨ m = 8 ∨ m = 9 ∨ m = 10 ∨ m = 11 ∨ m = 12) with rfl | rfl | rfl | rfl | rfl | rfl | rfl | rfl | rfl | rfl | rfl | rfl
  case inr.inl =>
    clear v1 v3 v4 v5 v6 v7 v8 v9 v10 v11 v12
    by_cases h0 : y = 0
    · subst h0
      have e2 : dim 0 2 = 29 := by unfold dim; simp
      rw [e2]
      go_enter Tryz.func179, Tryz.ntmps179
      go_wp2_with (first
        | (go_at_call 189; refine (rleap_any _ _).mono ?_; rintro _ w2 ⟨rfl, hw⟩; replace hw := hw.symm; subst hw)
        | fail)
      go_ret
      exact ⟨rfl, (Below.refl _ _).alloc (Nat.le_refl _) _⟩
    · have d0 : (y == 0) = false := by simpa using h0
      cases hl : leapB y
      · have e2 : dim y 2 = 28 := by unfold dim; rw [if_pos rfl, if_neg (by rw [hl]; simp; exact h0)]
        have HL := Zh hl
        rw [e2]
        clear hl e2
        go_enter Tryz.func179, Tryz.ntmps179
        go_wp2_with (first
          | (go_at_call 189; refine (rleap_any _ _).mono ?_; rintro _ w2 ⟨rfl, hw⟩; replace hw := hw.symm; subst hw; rw [HL.out])
          | fail)
        go_ret
        exact ⟨rfl, (Below.refl _ _).alloc (Nat.le_refl _) _⟩
      · have e2 : dim y 2 = 29 := by unfold dim; rw [if_pos rfl, if_pos (.inr hl)]
        have HL := Zh hl
        rw [e2]
        clear hl e2
        go_enter Tryz.func179, Tryz.ntmps179
        go_wp2_with (first
          | (go_at_call 189; refine (rleap_any _ _).mono ?_; rintro _ w2 ⟨rfl, hw⟩; replace hw := hw.symm; subst hw; rw [HL.out])
          | fail)
        go_ret
        exact ⟨rfl, (Below.refl _ _).alloc (Nat.le_refl _) _⟩
  all_goals (
    first | rw [v1] | rw [v3] | rw [v4] | rw [v5] | rw [v6] | rw [v7] | rw [v8] | rw [v9] | rw [v10] | rw [v11] | rw [v12]
    clear v1 v3 v4 v5 v6 v7 v8 v9 v10 v11 v12
    go_enter Tryz.func179, Tryz.ntmps179
    go_wp2
    go_ret
    exact ⟨rfl, (Below.refl _ _).alloc (Nat.le_refl _) _⟩)
set_option maxHeartbeats 2000000 in
theorem rmay_any (y m d : Int) (w : World) : Calls Tryz.prog 157 #[.agg #[.int .i64 y, .int .i64 m, .int .i64 d]] w fun e w' => e = .returned (.bool (mayB y m d)) ∧ Below w.heap.size w w' := by
  by_cases c1 : 0 ≤ y
  · by_cases c2 : y ≤ 9999
    · by_cases c3 : 1 ≤ m
      · by_cases c4 : m ≤ 12
        · by_cases c5 : 1 ≤ d
          · have HX0 : Hid (Blk (w.alloc (.cells #[.int .i64 y, .int .i64 m, .int .i64 d] 130)).drew w.heap.size 130 #[.int .i64 y, .int .i64 m, .int .i64 d]) := Zh (Blk.new _ _ _).drew
            have HD := Zh (show mayB y m d = decide (d ≤ dim y m) by unfold mayB; simp [c1, c2, c3, c4, c5])
            rw [HD.out]
            go_enter Tryz.func157, Tryz.ntmps157
            go_wp2_with fail
            obtain ⟨s0, s1, s2⟩ := Blk3.at' HX0.out
            have HLT := Zh HX0.out.lt
            have HM := Zh (fun W => month_any y m c3 c4 W)
            go_region_held3 (fun w' => w'.cell? ⟨w.heap.size, 0, none⟩ = some (.int .i64 y) ∧ w'.cell? ⟨w.heap.size, 1, none⟩ = some (.int .i64 m) ∧ w'.cell? ⟨w.heap.size, 2, none⟩ = some (.int .i64 d)) (refine ⟨?_, ?_, ?_⟩ <;> assumption) (first
              | (go_at_call 179
                 (with_reducible refine (HM.out _).mono ?_)
                 rintro _ w3 ⟨rfl, hb⟩
                 obtain ⟨q0, q1, q2⟩ := Blk3.at' (HX0.out.below hb HLT.out)
                 have HB := Zh ((((Below.refl w.heap.size w).alloc (Nat.le_refl _) _).drew).trans (hb.mono (by simp)))
                 clear hb))
            all_goals (
              go_wp2
              go_ret
              exact ⟨rfl, HB.out⟩)
          · have d5 : decide (1 ≤ d) = false := by simpa using c5
            have HD := Zh (show mayB y m d = false by unfold mayB; simp; omega)
            rw [HD.out]
            go_enter Tryz.func157, Tryz.ntmps157
            go_wp2
            go_quiet (fail)
            go_wp2
            go_ret
            exact ⟨rfl, below_drewN ((Below.refl _ _).alloc (Nat.le_refl _) _) _⟩
        · have d4 : decide (m ≤ 12) = false := by simpa using c4
          have HD := Zh (show mayB y m d = false by unfold mayB; simp; omega)
          rw [HD.out]
          go_enter Tryz.func157, Tryz.ntmps157
          go_wp2
          go_quiet (fail)
          go_wp2
          go_ret
          exact ⟨rfl, below_drewN ((Below.refl _ _).alloc (Nat.le_refl _) _) _⟩
      · have d3 : decide (1 ≤ m) = false := by simpa using c3
        have HD := Zh (show mayB y m d = false by unfold mayB; simp; omega)
        rw [HD.out]
        go_enter Tryz.func157, Tryz.ntmps157
        go_wp2
        go_quiet (fail)
        go_wp2
        go_ret
        exact ⟨rfl, below_drewN ((Below.refl _ _).alloc (Nat.le_refl _) _) _⟩
    · have d2 : decide (y ≤ 9999) = false := by simpa using c2
      have HD := Zh (show mayB y m d = false by unfold mayB; simp; omega)
      rw [HD.out]
      go_enter Tryz.func157, Tryz.ntmps157
      go_wp2
      go_quiet (fail)
      go_wp2
      go_ret
      exact ⟨rfl, below_drewN ((Below.refl _ _).alloc (Nat.le_refl _) _) _⟩
  · have d1 : decide (0 ≤ y) = false := by simpa using c1
    have HD := Zh (show mayB y m d = false by unfold mayB; simp; omega)
    rw [HD.out]
    go_enter Tryz.func157, Tryz.ntmps157
    go_wp2
    go_quiet (fail)
    go_wp2
    go_ret
    exact ⟨rfl, below_drewN ((Below.refl _ _).alloc (Nat.le_refl _) _) _⟩
theorem two_any (n : Nat) (h : n < 100000) (w : World) : Calls Tryz.prog 158 #[.int .i64 (n : Int)] w fun e w' => e = .returned (.string ⟨(dig2 n).toArray⟩) ∧ Below w.heap.size w w' := by
  have h1 := dg_nat n
  have h2 := dg_nat (n / 10)
  have hcv : ∀ W : World, W.heap.size = w.heap.size → (convert 27 9 (.slice (some ⟨w.heap.size, 0, none⟩) 2 2)).run Tryz.prog (W.alloc (.cells #[.int .u8 ((dg (n / 10)).toNat : Int), .int .u8 ((dg n).toNat : Int)] 5)) = .ok (.string ⟨(dig2 n).toArray⟩) (W.alloc (.cells #[.int .u8 ((dg (n / 10)).toNat : Int), .int .u8 ((dg n).toNat : Int)] 5)) := by
    intro W hW
    refine run_convert_bytes_back _ 27 9 5 _ 2 (dig2 n) Tryz.underlying27 Tryz.underlying5 Tryz.underlying9 (fun j hj => ?_)
    have hb := Blk.new W 5 #[.int .u8 ((dg (n / 10)).toNat : Int), .int .u8 ((dg n).toNat : Int)]
    rw [hW] at hb
    rcases (by simp [dig2] at hj; omega : j = 0 ∨ j = 1) with rfl | rfl
    · exact hb.cell 0
    · exact hb.cell 1
  have HC := Zh hcv
  have HC0 := HC.out w rfl
  have e1 : (48 : Int) + (n : Int) / 10 % 10 = ((dg (n / 10)).toNat : Int) := by omega
  have e2 : (48 : Int) + (n : Int) % 10 = ((dg n).toNat : Int) := by omega
  obtain ⟨a, ha⟩ : ∃ a : Int, ((dg (n / 10)).toNat : Int) = a := ⟨_, rfl⟩
  obtain ⟨b, hb⟩ : ∃ b : Int, ((dg n).toNat : Int) = b := ⟨_, rfl⟩
  have u1 : 0 ≤ a ∧ a ≤ 255 := by omega
  have u2 : 0 ≤ b ∧ b ≤ 255 := by omega
  obtain ⟨u11, u12⟩ := u1
  obtain ⟨u21, u22⟩ := u2
  rw [ha, hb] at HC0
  rw [ha] at e1
  rw [hb] at e2
  clear hcv ha hb h1 h2
  go_enter Tryz.func158, Tryz.ntmps158
  go_wp2
  go_ret
  exact ⟨rfl, (Below.refl _ _).alloc (Nat.le_refl _) _⟩
end Go.Proofs.YtphijnkiiokieaaGreatDoor.Day
/- The document's own dates: how a date is shown, which number, how long until. -/
namespace Go.Proofs.YtphijnkiiokieaaGreatDoor.Day
open Go.RowKit
set_option linter.unusedVariables false
set_option maxRecDepth 100000
attribute [local go_sem ↓] Go.wp_at_zero Go.wp_at_succ
set_option maxHeartbeats 4000000 in
theorem rshow_any (y m d : Int) (w : World) : Calls Tryz.prog 137 #[.agg #[.int .i64 y, .int .i64 m, .int .i64 d]] w fun e w' => e = .returned (.string (showS y m d)) ∧ Below w.heap.size w w' := by
  cases hm : mayB y m d
  · have HM := Zh hm
    clear hm
    go_enter Tryz.func137, Tryz.ntmps137
    go_wp2_with (first
      | (go_at_call 157; refine (rmay_any _ _ _ _).mono ?_; rintro _ w2 ⟨rfl, hb⟩; rw [HM.out]; have HB := Zh hb; clear hb)
      | fail)
    go_ret
    exact ⟨by unfold showS; rw [HM.out]; rfl, ((Below.refl _ _).alloc (Nat.le_refl _) _).trans (HB.out.mono (by simp))⟩
  · have HM := Zh hm
    obtain ⟨m1, m2, m3, m4, m5, m6⟩ := may_iff.1 hm
    have m7 := (dim_bd y m).2
    have HSH := Zh (show showS y m d = ⟨(showL y.toNat m.toNat d.toNat).toArray⟩ by unfold showS; rw [if_pos hm])
    rw [HSH.out]
    clear HSH hm
    obtain ⟨Y, rfl⟩ := Int.eq_ofNat_of_zero_le m1
    obtain ⟨M, rfl⟩ := Int.eq_ofNat_of_zero_le (show 0 ≤ m by omega)
    obtain ⟨D, rfl⟩ := Int.eq_ofNat_of_zero_le (show 0 ≤ d by omega)
    simp only [Int.toNat_natCast]
    have HMM := Zh (show M < 100000 by omega)
    have HDD := Zh (show D < 100000 by omega)
    have HYY := Zh (show Y < 100000 by omega)
    clear m2 m3 m4 m5 m6 m7 m1
    obtain ⟨Q, hQ⟩ : ∃ Q : ByteArray, (⟨(dig2 (Y / 100)).toArray⟩ : ByteArray) = Q := ⟨_, rfl⟩
    obtain ⟨Z, hZ⟩ : ∃ Q : ByteArray, (⟨(dig2 Y).toArray⟩ : ByteArray) = Q := ⟨_, rfl⟩
    obtain ⟨P, hP⟩ : ∃ P : ByteArray, (⟨(dig2 M).toArray⟩ : ByteArray) = P := ⟨_, rfl⟩
    obtain ⟨R, hR⟩ : ∃ R : ByteArray, (⟨(dig2 D).toArray⟩ : ByteArray) = R := ⟨_, rfl⟩
    have hQs : Q.size = 2 := by rw [← hQ]; rfl
    have hZs : Z.size = 2 := by rw [← hZ]; rfl
    have hPs : P.size = 2 := by rw [← hP]; rfl
    have hRs : R.size = 2 := by rw [← hR]; rfl
    have HQ := Zh hQ
    have HZ := Zh hZ
    have HP := Zh hP
    have HR := Zh hR
    clear hQ hP hR hZ
    by_cases h0 : Y = 0
    · have HL := Zh (show (⟨(showL Y M D).toArray⟩ : ByteArray) = ⟨#[45]⟩ ++ ⟨#[45]⟩ ++ P ++ ⟨#[45]⟩ ++ R by
        apply bs_ext
        rw [← HP.out, ← HR.out]
        simp [showL, headL, h0])
      rw [HL.out]
      have h0' : ((Y : Int) == 0) = true := by simp [h0]
      have H0 := Zh h0
      clear h0
      go_enter Tryz.func137, Tryz.ntmps137
      go_wp2_with (first
        | (go_at_call 157; refine (rmay_any _ _ _ _).mono ?_; rintro _ w2 ⟨rfl, hb⟩; rw [HM.out]; have HX2 := Zh ((Blk.new w 130 #[.int .i64 (Y : Int), .int .i64 (M : Int), .int .i64 (D : Int)]).below hb (by simp)); have HB := Zh (((Below.refl w.heap.size w).alloc (Nat.le_refl _) _).trans (hb.mono (by simp))); obtain ⟨a0, a1, a2⟩ := Blk3.cells HX2.out; clear hb)
        | fail)
      have b1x : w2.drew.cell? ⟨w.heap.size, 1, none⟩ = some (.int .i64 (M : Int)) := HX2.out.cell 1
      have b2x : w2.drew.cell? ⟨w.heap.size, 2, none⟩ = some (.int .i64 (D : Int)) := HX2.out.cell 2
      have HLTx := Zh HX2.out.lt
      go_region_held3 (fun w' => w'.cell? ⟨w.heap.size, 1, none⟩ = some (.int .i64 (M : Int)) ∧ w'.cell? ⟨w.heap.size, 2, none⟩ = some (.int .i64 (D : Int))) (refine ⟨?_, ?_⟩ <;> assumption) (first
        | (go_at_call 158
           (with_reducible refine (two_any M HMM.out _).mono ?_)
           rintro _ w5x ⟨rfl, hb⟩
           rw [HP.out]
           have HX5x := Zh ((HX2.out.drew).below hb HLTx.out)
           have c1x : w5x.cell? ⟨w.heap.size, 1, none⟩ = some (.int .i64 (M : Int)) := HX5x.out.cell 1
           have c2x : w5x.cell? ⟨w.heap.size, 2, none⟩ = some (.int .i64 (D : Int)) := HX5x.out.cell 2
           have HB5x := Zh (HB.out.drew.trans (hb.mono HB.out.size))
           clear hb)
        | (go_at_call 158
           (with_reducible refine (two_any D HDD.out _).mono ?_)
           rintro _ w6x ⟨rfl, hb⟩
           rw [HR.out]
           have HX6x := Zh (HX5x.out.below hb HX5x.out.lt)
           have d1x : w6x.cell? ⟨w.heap.size, 1, none⟩ = some (.int .i64 (M : Int)) := HX6x.out.cell 1
           have d2x : w6x.cell? ⟨w.heap.size, 2, none⟩ = some (.int .i64 (D : Int)) := HX6x.out.cell 2
           have HB6x := Zh (HB5x.out.trans (hb.mono HB5x.out.size))
           clear hb))
      all_goals (
        go_wp2
        go_ret
        exact ⟨rfl, HB6x.out⟩)
    · have HL := Zh (show (⟨(showL Y M D).toArray⟩ : ByteArray) = Q ++ Z ++ ⟨#[45]⟩ ++ P ++ ⟨#[45]⟩ ++ R by
        apply bs_ext
        rw [← HP.out, ← HR.out, ← HQ.out, ← HZ.out]
        have e1 : Y / 100 / 10 = Y / 1000 := by omega
        simp [showL, headL, h0, dig4, dig2, e1])
      rw [HL.out]
      have h0' : ((Y : Int) == 0) = false := by simpa using h0
      have H0 := Zh h0
      have hq : (Y : Int) / 100 = ((Y / 100 : Nat) : Int) := by omega
      obtain ⟨q, hq2⟩ : ∃ q : Nat, Y / 100 = q := ⟨_, rfl⟩
      rw [hq2] at hq HQ
      have HQB := Zh (show q < 100000 by have := HYY.out; omega)
      have htd : (Y : Int).tdiv 100 = (q : Int) := by rw [Int.tdiv_eq_ediv_of_nonneg (by omega)]; exact hq
      have hwq : IntKind.i64.wrap (q : Int) = (q : Int) := IntWalk.i64_in _ (by have := HQB.out; omega)
      clear h0 hq2
      go_enter Tryz.func137, Tryz.ntmps137
      go_wp2_with (first
        | (go_at_call 157; refine (rmay_any _ _ _ _).mono ?_; rintro _ w2 ⟨rfl, hb⟩; rw [HM.out]; have HX2 := Zh ((Blk.new w 130 #[.int .i64 (Y : Int), .int .i64 (M : Int), .int .i64 (D : Int)]).below hb (by simp)); have HB := Zh (((Below.refl w.heap.size w).alloc (Nat.le_refl _) _).trans (hb.mono (by simp))); obtain ⟨a0, a1, a2⟩ := Blk3.cells HX2.out; clear hb)
        | fail)
      have b1y : w2.drew.cell? ⟨w.heap.size, 0, none⟩ = some (.int .i64 (Y : Int)) := HX2.out.cell 0
      have b2y : w2.drew.cell? ⟨w.heap.size, 1, none⟩ = some (.int .i64 (M : Int)) := HX2.out.cell 1
      have HLTy := Zh HX2.out.lt
      go_region_held3 (fun w' => w'.cell? ⟨w.heap.size, 0, none⟩ = some (.int .i64 (Y : Int)) ∧ w'.cell? ⟨w.heap.size, 1, none⟩ = some (.int .i64 (M : Int))) (refine ⟨?_, ?_⟩ <;> assumption) (first
        | (go_at_call 158
           (with_reducible refine (two_any q HQB.out _).mono ?_)
           rintro _ w5y ⟨rfl, hb⟩
           rw [HQ.out]
           have HX5y := Zh ((HX2.out.drew).below hb HLTy.out)
           have c1y : w5y.cell? ⟨w.heap.size, 0, none⟩ = some (.int .i64 (Y : Int)) := HX5y.out.cell 0
           have c2y : w5y.cell? ⟨w.heap.size, 1, none⟩ = some (.int .i64 (M : Int)) := HX5y.out.cell 1
           have HB5y := Zh (HB.out.drew.trans (hb.mono HB.out.size))
           clear hb)
        | (go_at_call 158
           (with_reducible refine (two_any Y HYY.out _).mono ?_)
           rintro _ w6y ⟨rfl, hb⟩
           rw [HZ.out]
           have HX6y := Zh (HX5y.out.below hb HX5y.out.lt)
           have d1y : w6y.cell? ⟨w.heap.size, 0, none⟩ = some (.int .i64 (Y : Int)) := HX6y.out.cell 0
           have d2y : w6y.cell? ⟨w.heap.size, 1, none⟩ = some (.int .i64 (M : Int)) := HX6y.out.cell 1
           have HB6y := Zh (HB5y.out.trans (hb.mono HB5y.out.size))
           clear hb))
      all_goals (
        have HX7 := Zh HX6y.out
        clear b1y b2y c1y c2y
        go_wp2_with fail
        have b1x : w6y.drew.cell? ⟨w.heap.size, 1, none⟩ = some (.int .i64 (M : Int)) := HX7.out.cell 1
        have b2x : w6y.drew.cell? ⟨w.heap.size, 2, none⟩ = some (.int .i64 (D : Int)) := HX7.out.cell 2
        have HLTx := Zh HX7.out.lt
        go_region_held3 (fun w' => w'.cell? ⟨w.heap.size, 1, none⟩ = some (.int .i64 (M : Int)) ∧ w'.cell? ⟨w.heap.size, 2, none⟩ = some (.int .i64 (D : Int))) (refine ⟨?_, ?_⟩ <;> assumption) (first
          | (go_at_call 158
             (with_reducible refine (two_any M HMM.out _).mono ?_)
             rintro _ w5x ⟨rfl, hb⟩
             rw [HP.out]
             have HX5x := Zh ((HX7.out.drew).below hb HLTx.out)
             have c1x : w5x.cell? ⟨w.heap.size, 1, none⟩ = some (.int .i64 (M : Int)) := HX5x.out.cell 1
             have c2x : w5x.cell? ⟨w.heap.size, 2, none⟩ = some (.int .i64 (D : Int)) := HX5x.out.cell 2
             have HB5x := Zh (HB6y.out.drew.trans (hb.mono HB6y.out.size))
             clear hb)
          | (go_at_call 158
             (with_reducible refine (two_any D HDD.out _).mono ?_)
             rintro _ w6x ⟨rfl, hb⟩
             rw [HR.out]
             have HX6x := Zh (HX5x.out.below hb HX5x.out.lt)
             have d1x : w6x.cell? ⟨w.heap.size, 1, none⟩ = some (.int .i64 (M : Int)) := HX6x.out.cell 1
             have d2x : w6x.cell? ⟨w.heap.size, 2, none⟩ = some (.int .i64 (D : Int)) := HX6x.out.cell 2
             have HB6x := Zh (HB5x.out.trans (hb.mono HB5x.out.size))
             clear hb))
        all_goals (
          go_wp2
          go_ret
          exact ⟨rfl, HB6x.out⟩))
end Go.Proofs.YtphijnkiiokieaaGreatDoor.Day
/- Dates: two boxes, cell by cell. -/
namespace Go.Proofs.YtphijnkiiokieaaGreatDoor.Day
open Go.RowKit
set_option linter.unusedVariables false
theorem Bx2.one3 {w0 wr : World} {B C : Nat} {y m d ty tm td : Int} (h : Bx2 w0 wr B C y m d ty tm td) : wr.cell? ⟨B, 0, none⟩ = some (.int .i64 y) ∧ wr.cell? ⟨B, 1, none⟩ = some (.int .i64 m) ∧ wr.cell? ⟨B, 2, none⟩ = some (.int .i64 d) := ⟨h.one.cell 0, h.one.cell 1, h.one.cell 2⟩
theorem Bx2.two3 {w0 wr : World} {B C : Nat} {y m d ty tm td : Int} (h : Bx2 w0 wr B C y m d ty tm td) : wr.cell? ⟨C, 0, none⟩ = some (.int .i64 ty) ∧ wr.cell? ⟨C, 1, none⟩ = some (.int .i64 tm) ∧ wr.cell? ⟨C, 2, none⟩ = some (.int .i64 td) := ⟨h.two.cell 0, h.two.cell 1, h.two.cell 2⟩
theorem Bx2.two4 {w0 wr : World} {B C : Nat} {y m d ty tm td : Int} (h : Bx2 w0 wr B C y m d ty tm td) : wr.frozen? ⟨C, 0, none⟩ = false ∧ wr.frozen? ⟨C, 1, none⟩ = false ∧ wr.frozen? ⟨C, 2, none⟩ = false := ⟨h.two.frozen 0, h.two.frozen 1, h.two.frozen 2⟩
end Go.Proofs.YtphijnkiiokieaaGreatDoor.Day
