/- Texts of one proof, joined. -/
import Derived.Test.YtphijnkiiokieaaGreatDoorZah
set_option linter.unusedVariables false
set_option linter.unusedSimpArgs false
set_option maxRecDepth 100000
set_option maxHeartbeats 80000000
namespace Go.Proofs.YtphijnkiiokieaaGreatDoor
open Go.RowKit
open Go.Lib hiding intOf
theorem sod_any (c : UInt8) (w : World) : Calls Tryz.prog 199 #[.int .u8 (c.toNat : Int)] w fun e w' => e = .returned (.bool (sodB c)) ∧ w' = w := by
 have hc8 : (c.toNat : Int) ≤ 255 := by have := c.toNat_lt; omega
 obtain ⟨r, hr⟩ : ∃ r, sodB c = r := ⟨_, rfl⟩; rw [hr]; have HR := Zh (show r = ((decide (97 ≤ (c.toNat : Int)) && decide ((c.toNat : Int) ≤ 122)) || (decide (48 ≤ (c.toNat : Int)) && decide ((c.toNat : Int) ≤ 57))) by rw [← hr]; rfl); clear hr
 by_cases u1 : 97 ≤ (c.toNat : Int)
 ·
  by_cases u2 : (c.toNat : Int) ≤ 122
  ·
   have e := Zh (show r = true by rw [HR.out]; simp [u1, u2])
   go_enter Tryz.func199, Tryz.ntmps199
   go_wp2
   go_ret
   exact ⟨by rw [e.out]; rfl, rfl⟩
  ·
   have u2' : decide ((c.toNat : Int) ≤ 122) = false := by simpa using u2
   have u3 : 48 ≤ (c.toNat : Int) := by omega
   have u4 : ¬ (c.toNat : Int) ≤ 57 := by omega
   have u4' : decide ((c.toNat : Int) ≤ 57) = false := by simpa using u4
   have e := Zh (show r = false by rw [HR.out, u2', u4']; simp); clear HR
   go_enter Tryz.func199, Tryz.ntmps199
   go_wp2
   go_ret
   exact ⟨by rw [e.out]; rfl, rfl⟩
 ·
  have u1' : decide (97 ≤ (c.toNat : Int)) = false := by simpa using u1
  by_cases u3 : 48 ≤ (c.toNat : Int)
  ·
   by_cases u4 : (c.toNat : Int) ≤ 57
   ·
    have e := Zh (show r = true by rw [HR.out]; simp [u3, u4])
    go_enter Tryz.func199, Tryz.ntmps199
    go_wp2
    go_ret
    exact ⟨by rw [e.out]; rfl, rfl⟩
   ·
    have u4' : decide ((c.toNat : Int) ≤ 57) = false := by simpa using u4
    have e := Zh (show r = false by rw [HR.out, u1', u4']; simp)
    go_enter Tryz.func199, Tryz.ntmps199
    go_wp2
    go_ret
    exact ⟨by rw [e.out]; rfl, rfl⟩
  ·
   have u3' : decide (48 ≤ (c.toNat : Int)) = false := by simpa using u3
   have e := Zh (show r = false by rw [HR.out, u1', u3']; simp)
   go_enter Tryz.func199, Tryz.ntmps199
   go_wp2
   go_ret
   exact ⟨by rw [e.out]; rfl, rfl⟩
theorem take_snoc_all (p : UInt8 → Bool) (d : ByteArray) (k : Nat) (hk : k < d.size) : (d.data.toList.take (k + 1)).all p = ((d.data.toList.take k).all p && p d[k]) := by
 rw [List.take_succ_eq_append_getElem (by simpa using hk), List.all_append]
 simp
 rfl
theorem miss_all (p : UInt8 → Bool) (d : ByteArray) (k : Nat) (hk : k < d.size) (h : p d[k] = false) : d.data.toList.all p = false := by
 rw [List.all_eq_false]; refine ⟨d[k], ?_, by rw [h]; simp⟩; have : d.data.toList[k]'(by simpa using hk) ∈ d.data.toList := List.getElem_mem _
 exact this
theorem getD_at (s : ByteArray) (k : Nat) (h : k < s.size) : s.data.toList.getD k 0 = s[k] := by
 rw [List.getD_eq_getElem?_getD, List.getElem?_eq_getElem (by simpa using h)]; rfl
theorem byte_of {c : UInt8} {n : Nat} (k : UInt8) (hk : k.toNat = n) (h : (c.toNat : Int) = n) : c = k := UInt8.toNat_inj.1 (by omega)
theorem byte_beq (c k : UInt8) : (c == k) = ((c.toNat : Int) == (k.toNat : Int)) := by
 by_cases h : c = k
 ·
  subst h; simp
 ·
  have h1 : (c == k) = false := by simpa using h
  rw [h1]; symm
  rw [beq_eq_false_iff_ne]
  intro e; exact h (UInt8.toNat_inj.1 (by omega))
theorem isLabel_any (s : ByteArray) (hs : s.size ≤ 1000000) (w : World) : Calls Tryz.prog 201 #[.string s] w fun e w' => e = .returned (.bool (labelB s.data.toList)) ∧ w' = w := by
 have hsl : s.data.toList.length = s.size := by simp
 have hr0 : labelB s.data.toList = (decide (1 ≤ (s.size : Int)) && decide ((s.size : Int) ≤ 20) && !(s.data.toList.getD 0 0 == 45) && !(s.data.toList.getD (s.size - 1) 0 == 45) && s.data.toList.all labC) := by
  unfold labelB; rw [hsl]
 obtain ⟨r, hr⟩ : ∃ r, labelB s.data.toList = r := ⟨_, rfl⟩; rw [hr] at hr0 ⊢; have HR := Zh hr0; have hsI : (s.size : Int) ≤ 1000000 := by omega
 clear hr0 hr hsl
 by_cases h1 : (s.size : Int) < 1
 ·
  have H0 := Zh (show r = false by rw [HR.out, decide_eq_false (by omega)]; rfl)
  go_enter Tryz.func201, Tryz.ntmps201
  go_wp2
  go_ret
  exact ⟨by rw [H0.out]; rfl, rfl⟩
 ·
  by_cases h20 : (s.size : Int) > 20
  ·
   have H0 := Zh (show r = false by rw [HR.out, decide_eq_false (show ¬ (s.size : Int) ≤ 20 by omega)]; simp)
   go_enter Tryz.func201, Tryz.ntmps201
   go_wp2
   go_ret
   exact ⟨by rw [H0.out]; rfl, rfl⟩
  ·
   obtain ⟨n, hn⟩ : ∃ n, s.size = n + 1 := ⟨s.size - 1, by omega⟩; have hz : 0 < s.size := by omega
   have hns : n < s.size := by omega
   have hnI : (s.size : Int) - 1 = (n : Int) := by omega
   have HR2 := Zh (show r = (!((s[0].toNat : Int) == 45) && !((s[n].toNat : Int) == 45) && s.data.toList.all labC) by
    rw [HR.out, decide_eq_true (by omega), decide_eq_true (by omega), show s.size - 1 = n by omega, getD_at s 0 hz, getD_at s n hns, byte_beq, byte_beq]; rfl)
   clear HR
   by_cases u0 : (s[0].toNat : Int) = 45
   ·
    have u0' : ((s[0].toNat : Int) == 45) = true := by rw [u0]; rfl
    have H0 := Zh (show r = false by rw [HR2.out, u0']; rfl); clear u0 HR2 hn
    go_enter Tryz.func201, Tryz.ntmps201
    go_wp2
    go_ret
    exact ⟨by rw [H0.out]; rfl, rfl⟩
   ·
    have u0' : ((s[0].toNat : Int) == 45) = false := by simpa using u0
    by_cases u9 : (s[n].toNat : Int) = 45
    ·
     have u9' : ((s[n].toNat : Int) == 45) = true := by rw [u9]; rfl
     have H0 := Zh (show r = false by rw [HR2.out, u9', u0']; rfl); clear u0 u9 HR2 hn
     go_enter Tryz.func201, Tryz.ntmps201
     go_wp2
     go_ret
     exact ⟨by rw [H0.out]; rfl, rfl⟩
    ·
     have u9' : ((s[n].toNat : Int) == 45) = false := by simpa using u9
     have HR3 := Zh (show r = s.data.toList.all labC by rw [HR2.out, u9', u0']; rfl); have HS := Zh sod_any; clear u0 u9 HR2 hn
     go_enter Tryz.func201, Tryz.ntmps201
     go_wp2
     go_loop [28] (fun i => ∃ k : Nat, k ≤ s.size ∧ i = .int .i64 (k : Int) ∧ (s.data.toList.take k).all labC = true) (fun i => s.size - (intOf i).toNat)
     case atStart => exact ⟨0, Nat.zero_le _, rfl, by simp⟩
     case round =>
      obtain ⟨k, hk, rfl, hno⟩ := hrel; have HN := Zh hno; clear hno
      by_cases hlt : k < s.size
      ·
       have HT := Zh (take_snoc_all labC s k hlt); have HM := Zh (miss_all labC s k hlt); obtain ⟨c, hc⟩ : ∃ c, s[k] = c := ⟨_, rfl⟩; rw [hc] at HT HM; have hc8 : (c.toNat : Int) ≤ 255 := by have := c.toNat_lt; omega
       have HC := Zh (fun w => HS.out c w); clear u0' u9' hnI
       cases hd : sodB c with
       | true =>
        rw [hd] at HC; have HE := Zh (show (s.data.toList.take (k + 1)).all labC = true by rw [HT.out, HN.out]; unfold labC; rw [hd]; rfl); clear hd
        go_wp2_with (go_at_call 199; (with_reducible refine (HC.out _).mono ?_); rintro e w1 ⟨rfl, hw⟩; replace hw := hw.symm; subst hw)
        exact ⟨⟨k + 1, by omega, by go_num, HE.out⟩, by simp [intOf]; omega⟩
       | false =>
        rw [hd] at HC
        by_cases u5 : (c.toNat : Int) = 45
        ·
         have u5' : ((c.toNat : Int) == 45) = true := by rw [u5]; rfl
         have u5n : ((c.toNat : Int) != 45) = false := by rw [u5]; rfl
         have HE := Zh (show (s.data.toList.take (k + 1)).all labC = true by rw [HT.out, HN.out]; unfold labC; rw [u5']; simp); clear hd u5
         go_wp2_with (go_at_call 199; (with_reducible refine (HC.out _).mono ?_); rintro e w1 ⟨rfl, hw⟩; replace hw := hw.symm; subst hw)
         exact ⟨⟨k + 1, by omega, by go_num, HE.out⟩, by simp [intOf]; omega⟩
        ·
         have u5' : ((c.toNat : Int) == 45) = false := by simpa using u5
         have u5n : ((c.toNat : Int) != 45) = true := by simpa using u5
         have H0 := Zh (show r = false by rw [HR3.out]; exact HM.out (by unfold labC; rw [u5', hd]; rfl)); clear hd u5
         go_wp2_with (go_at_call 199; (with_reducible refine (HC.out _).mono ?_); rintro e w1 ⟨rfl, hw⟩; replace hw := hw.symm; subst hw)
         go_ret
         exact ⟨by rw [H0.out]; rfl, rfl⟩
      ·
       have hks : k = s.size := by omega
       subst hks; have H0 := Zh (show r = true by rw [HR3.out, ← HN.out, List.take_of_length_le (by simp)])
       go_wp2
       go_ret
       exact ⟨by rw [H0.out]; rfl, rfl⟩
def Mx (w : World) : Prop := ∃ m, w.cell? ⟨0, 0, none⟩ = some (.int .i64 m)
theorem Mx.keep {w w' : World} {B : Nat} (h : Mx w) (hb : Below B w w') (hB : 0 < B) : Mx w' := by
 obtain ⟨m, hm⟩ := h
 exact ⟨m, (hb.cell (p := ⟨0, 0, none⟩) hB).trans hm⟩
theorem Mx.lt {w : World} (h : Mx w) : 0 < w.heap.size := by
 obtain ⟨m, hm⟩ := h
 exact cell_lt hm
theorem isDomain_any (s : ByteArray) (hs : s.size ≤ 1000000) (w : World) (hM : Mx w) : Calls Tryz.prog 192 #[.string s] w fun e w' => e = .returned (.bool (domB s.data.toList)) ∧ Below w.heap.size w w' := by
 obtain ⟨m, hm⟩ := hM; have HSp := Zh (Tryz.strings_Split s ⟨#[46]⟩ m w (by omega) hm (Nat.le_refl _)); have hL := splitB_list s.size s (Nat.le_refl _); have hLl := splitB_all ⟨#[46]⟩ (Nat.le_refl _) 0 _ s rfl; have hcl := countB_le ⟨#[46]⟩ (Nat.le_refl _) s.size s (Nat.le_refl _); obtain ⟨n, hn⟩ : ∃ n, countB s ⟨#[46]⟩ + 1 = n := ⟨_, rfl⟩; obtain ⟨L, hLL⟩ : ∃ L, splitB ⟨#[46]⟩ 0 (countB s ⟨#[46]⟩) s = L := ⟨_, rfl⟩; rw [hLL] at hL hLl HSp; have hnI : ((countB s ⟨#[46]⟩ + 1 : Nat) : Int) = (n : Int) := by omega
 rw [hn] at hLl HSp; have hr0 : domB s.data.toList = (decide (2 ≤ (n : Int)) && L.all (fun b => labelB b.data.toList)) := by
  unfold domB
  rw [← hL, List.length_map, hLl, List.all_map]; rfl
 have hLs : ∀ x ∈ L, x.size ≤ 1000000 := by
  intro x hx; have h1 : x.data.toList ∈ splitL s.data.toList := by rw [← hL]; exact List.mem_map_of_mem hx
  have h2 : ∀ (l : List UInt8) (p : List UInt8), p ∈ splitL l → p.length ≤ l.length := by
   intro l
   induction l with
   | nil => intro p hp; simp [splitL] at hp; subst hp; simp
   | cons c t ih =>
    intro p hp; rw [split_cons] at hp
    split at hp
    ·
     rcases List.mem_cons.1 hp with e | e
     ·
      subst e; simp
     ·
      have := ih p e; simp; omega
    ·
     split at hp
     next e => exact absurd e (split_ne t)
     next h r e =>
      rw [e] at ih
      rcases List.mem_cons.1 hp with e2 | e2
      ·
       subst e2; have := ih h (by simp); simp; omega
      ·
       have := ih p (List.mem_cons_of_mem _ e2); simp; omega
  have h3 := h2 _ _ h1
  simp at h3
  omega
 obtain ⟨r, hr⟩ : ∃ r, domB s.data.toList = r := ⟨_, rfl⟩; rw [hr] at hr0 ⊢; have HR := Zh hr0; have HLs := Zh hLs; have HLl := Zh hLl; have hnb : (n : Int) ≤ 1000001 := by omega
 have HI := Zh isLabel_any; have HBl := Zh (Blk.new w 9 (L.map Value.string).toArray); have HB0 := Zh ((Below.refl w.heap.size w).alloc (Nat.le_refl _) (.cells (L.map Value.string).toArray 9)); clear hr0 hr hLs hL hLl hLL hn hcl hnI hm
 go_enter Tryz.func192, Tryz.ntmps192
 obtain ⟨H, hH⟩ : ∃ H, w.heap.size = H := ⟨_, rfl⟩; rw [hH] at HSp HBl HB0; obtain ⟨W1, hW1⟩ : ∃ W1, w.alloc (.cells (L.map Value.string).toArray 9) = W1 := ⟨_, rfl⟩; rw [hW1] at HSp HBl HB0; clear hW1; have HH := Zh hH
 by_cases h2 : (n : Int) < 2
 ·
  have H0 := Zh (show r = false by rw [HR.out, decide_eq_false (by omega)]; rfl); clear hH
  go_wp2_with (go_at_call 200; (with_reducible refine (HSp.out).mono ?_); rintro e w1 ⟨rfl, hw⟩; subst hw)
  go_ret
  exact ⟨by rw [H0.out]; rfl, by rw [HH.out]; exact HB0.out⟩
 ·
  have HR2 := Zh (show r = L.all (fun b => labelB b.data.toList) by rw [HR.out, decide_eq_true (by omega)]; rfl); clear hH HR
  go_wp2_with (go_at_call 200; (with_reducible refine (HSp.out).mono ?_); rintro e w1 ⟨rfl, hw⟩; subst hw)
  go_loop [13] (fun i => ∃ k : Nat, k ≤ n ∧ i = .int .i64 (k : Int) ∧ (L.take k).all (fun b => labelB b.data.toList) = true) (fun i => n - (intOf i).toNat)
  case atStart => exact ⟨0, Nat.zero_le _, rfl, by simp⟩
  case round =>
   obtain ⟨k, hk, rfl, hno⟩ := hrel; have HN := Zh hno; clear hno
   by_cases hlt : k < n
   ·
    have hkL : k < L.length := by rw [HLl.out]; exact hlt
    have hcell : w1.cell? ⟨H, k, none⟩ = some (.string L[k]) := by
     rw [HBl.out.cell k]; simp [hkL]
    have HT := Zh (show (L.take (k + 1)).all (fun b => labelB b.data.toList) = ((L.take k).all (fun b => labelB b.data.toList) && labelB L[k].data.toList) by
     rw [List.take_succ_eq_append_getElem hkL, List.all_append]; simp)
    have HMs := Zh (show labelB L[k].data.toList = false → L.all (fun b => labelB b.data.toList) = false from fun h => by
     rw [List.all_eq_false]; exact ⟨L[k], List.getElem_mem _, by rw [h]; simp⟩)
    have hxs := HLs.out L[k] (List.getElem_mem _); obtain ⟨x, hx⟩ : ∃ x, L[k] = x := ⟨_, rfl⟩; rw [hx] at hcell HT HMs hxs; have HC := Zh (fun w => HI.out x hxs w); clear hx hkL
    cases hd : labelB x.data.toList with
    | true =>
     rw [hd] at HC; have HE := Zh (show (L.take (k + 1)).all (fun b => labelB b.data.toList) = true by rw [HT.out, HN.out, hd]; rfl); clear hd
     go_wp2_with (go_at_call 201; (with_reducible refine (HC.out _).mono ?_); rintro e w2 ⟨rfl, hw⟩; replace hw := hw.symm; subst hw)
     exact ⟨⟨k + 1, by omega, by go_num, HE.out⟩, by simp [intOf]; omega⟩
    | false =>
     rw [hd] at HC; have H0 := Zh (show r = false by rw [HR2.out]; exact HMs.out hd); clear hd
     go_wp2_with (go_at_call 201; (with_reducible refine (HC.out _).mono ?_); rintro e w2 ⟨rfl, hw⟩; replace hw := hw.symm; subst hw)
     go_ret
     exact ⟨by rw [H0.out]; rfl, by rw [HH.out]; exact HB0.out⟩
   ·
    have hkn : k = n := by omega
    subst hkn; have H0 := Zh (show r = true by rw [HR2.out, ← HN.out, List.take_of_length_le (by rw [HLl.out]; exact Nat.le_refl _)])
    go_wp2
    go_ret
    exact ⟨by rw [H0.out]; rfl, by rw [HH.out]; exact HB0.out⟩
theorem capB_iff (c : UInt8) : capB c = true ↔ 65 ≤ c.toNat ∧ c.toNat ≤ 90 := by unfold capB; simp only [Bool.and_eq_true, decide_eq_true_eq]; omega
theorem sodB_iff (c : UInt8) : sodB c = true ↔ (97 ≤ c.toNat ∧ c.toNat ≤ 122) ∨ (48 ≤ c.toNat ∧ c.toNat ≤ 57) := by
 unfold sodB lowB numB; simp only [Bool.or_eq_true, Bool.and_eq_true, decide_eq_true_eq]; omega
theorem dotC_range (c : UInt8) (h : dotC c = true) : c.toNat = 46 ∨ c.toNat = 95 ∨ c.toNat = 43 ∨ c.toNat = 45 := by
 unfold dotC at h
 simp only [Bool.or_eq_true, beq_iff_eq] at h
 rcases h with ((h | h) | h) | h <;> subst h <;> decide
theorem locC_range (c : UInt8) (h : locC c = true) : 33 ≤ c.toNat ∧ c.toNat ≤ 122 ∧ c ≠ 64 := by
 unfold locC at h
 simp only [Bool.or_eq_true] at h; have h64 : (64 : UInt8).toNat = 64 := rfl
 rcases h with (h | h) | h
 ·
  have := (capB_iff c).1 h; exact ⟨by omega, by omega, fun e => by rw [e] at this; omega⟩
 ·
  have := (sodB_iff c).1 h; exact ⟨by omega, by omega, fun e => by rw [e] at this; omega⟩
 ·
  have := dotC_range c h; exact ⟨by omega, by omega, fun e => by rw [e] at this; omega⟩
theorem labC_range (c : UInt8) (h : labC c = true) : 33 ≤ c.toNat ∧ c.toNat ≤ 122 ∧ c ≠ 64 ∧ capB c = false := by
 unfold labC at h
 simp only [Bool.or_eq_true, beq_iff_eq] at h; have h64 : (64 : UInt8).toNat = 64 := rfl; have key : ((97 ≤ c.toNat ∧ c.toNat ≤ 122) ∨ (48 ≤ c.toNat ∧ c.toNat ≤ 57)) ∨ c.toNat = 45 := by
  rcases h with h | h
  ·
   exact .inl ((sodB_iff c).1 h)
  ·
   exact .inr (by omega)
 refine ⟨by omega, by omega, fun e => by rw [e] at key; omega, ?_⟩
 cases hc : capB c with
 | false => rfl
 | true => have := (capB_iff c).1 hc; omega
theorem label_chars {l : List UInt8} (h : labelB l = true) : ∀ c ∈ l, labC c = true := by
 unfold labelB at h
 simp only [Bool.and_eq_true, List.all_eq_true] at h
 exact h.2
theorem split_mem : ∀ (l : List UInt8) (c : UInt8), c ∈ l → c = 46 ∨ ∃ p ∈ splitL l, c ∈ p := by
 intro l
 induction l with
 | nil => intro c h; cases h
 | cons x t ih =>
  intro c h; rw [split_cons]
  by_cases hx : x = 46
  ·
   rw [if_pos hx]
   rcases List.mem_cons.1 h with e | e
   ·
    exact .inl (e.trans hx)
   ·
    rcases ih c e with h1 | ⟨p, hp, hc⟩
    ·
     exact .inl h1
    ·
     exact .inr ⟨p, List.mem_cons_of_mem _ hp, hc⟩
  ·
   rw [if_neg hx]
   cases hs : splitL t with
   | nil => exact absurd hs (split_ne t)
   | cons hd r =>
    rw [hs] at ih
    rcases List.mem_cons.1 h with e | e
    ·
     exact .inr ⟨x :: hd, by simp, by rw [e]; simp⟩
    ·
     rcases ih c e with h1 | ⟨p, hp, hc⟩
     ·
      exact .inl h1
     ·
      rcases List.mem_cons.1 hp with hp | hp
      ·
       exact .inr ⟨x :: hd, by simp, by rw [← hp]; exact List.mem_cons_of_mem _ hc⟩
      ·
       exact .inr ⟨p, List.mem_cons_of_mem _ hp, hc⟩
theorem dom_chars {l : List UInt8} (h : (splitL l).all labelB = true) : ∀ c ∈ l, c = 46 ∨ labC c = true := by
 intro c hc; rw [List.all_eq_true] at h
 rcases split_mem l c hc with e | ⟨p, hp, h2⟩
 ·
  exact .inl e
 ·
  exact .inr (label_chars (h p hp) c h2)
theorem dom_range {l : List UInt8} (h : (splitL l).all labelB = true) : ∀ c ∈ l, 33 ≤ c.toNat ∧ c.toNat ≤ 122 ∧ c ≠ 64 ∧ low c = c := by
 intro c hc
 rcases dom_chars h c hc with e | e
 ·
  subst e; decide
 ·
  obtain ⟨h1, h2, h3, h4⟩ := labC_range c e; refine ⟨h1, h2, h3, ?_⟩
  unfold low
  rw [if_neg]; intro hh; have : capB c = true := (capB_iff c).2 (by omega)
  rw [this] at h4; cases h4
structure Addrs (x a b : List UInt8) : Prop where
 eq : x = a ++ 64 :: b
 len : x.length ≤ 64
 loc : localB a = true
 dom : domB b = true
 na : (64 : UInt8) ∉ a
 nb : (64 : UInt8) ∉ b
theorem local_chars {l : List UInt8} (h : localB l = true) : ∀ c ∈ l, locC c = true := by
 unfold localB at h
 simp only [Bool.and_eq_true, List.all_eq_true] at h
 exact h.2
theorem dom_all {l : List UInt8} (h : domB l = true) : (splitL l).all labelB = true := by
 unfold domB at h
 rw [Bool.and_eq_true] at h
 exact h.2
theorem mail_parts (x : List UInt8) (h : mailB x = true) : Addrs x (cut x [64]).1 (cut x [64]).2.1 := by
 unfold mailB at h
 simp only [Bool.and_eq_true, decide_eq_true_eq] at h; obtain ⟨⟨⟨h1, h2⟩, h3⟩, h4⟩ := h
 by_cases hm : (64 : UInt8) ∈ x
 ·
  obtain ⟨a, b, e, ha⟩ := first_at x 64 hm; rw [e, cut_has a b 64 ha] at h3 h4; rw [e, cut_has a b 64 ha]; refine ⟨rfl, by rw [← e]; omega, h3, h4, ha, fun hb => ?_⟩
  exact (dom_range (dom_all h4) 64 hb).2.2.1 rfl
 ·
  rw [cut_not x 64 hm] at h1; cases h1
theorem addrs_range {x a b : List UInt8} (h : Addrs x a b) : ∀ c ∈ x, 33 ≤ c.toNat ∧ c.toNat ≤ 122 := by
 intro c hc; rw [h.eq] at hc
 rcases List.mem_append.1 hc with hc | hc
 ·
  have := locC_range c (local_chars h.loc c hc); exact ⟨this.1, this.2.1⟩
 ·
  rcases List.mem_cons.1 hc with e | hc
  ·
   subst e; decide
  ·
   have := dom_range (dom_all h.dom) c hc; exact ⟨this.1, this.2.1⟩
theorem sq_solid (l : List UInt8) (h : ∀ c ∈ l, c ≠ 32) : sq l = l := by
 show (run (false, []) l).2 = l
 rw [run_solid l [] h]; rfl
theorem ascii_valid : ∀ (l : List UInt8), (∀ c ∈ l, c.toNat < 128) → validD l = true
 | [], _ => rfl
 | c :: t, h => by rw [validD_cons c t (h c (by simp))]; exact ascii_valid t (fun d hd => h d (by simp [hd]))
theorem plain_ctl (l : List UInt8) (h : ∀ c ∈ l, 32 ≤ c.toNat ∧ c.toNat ≤ 126) : l.any ctl = false := by
 rw [List.any_eq_false]; intro c hc; have := h c hc
 unfold ctl
 simp only [Bool.or_eq_true, decide_eq_true_eq, beq_iff_eq]
 omega
theorem bs_list (l : List UInt8) : (⟨l.toArray⟩ : ByteArray).data.toList = l := rfl
theorem app_list (a b : ByteArray) : (a ++ b).data.toList = a.data.toList ++ b.data.toList := by simp [ByteArray.data_append]
theorem clean_of (x : List UInt8) (h : ∀ c ∈ x, 32 ≤ c.toNat ∧ c.toNat ≤ 126) (hn : sq x ≠ []) (hl : (sq x).length ≤ 64) : cleanS ⟨x.toArray⟩ = (⟨(sq x).toArray⟩, 0) := by
 unfold cleanS
 rw [bs_list, ascii_valid x (fun c hc => by have := h c hc; omega), plain_ctl x h, squeezeS_sq, bs_list]
 unfold cleanOf
 rw [if_neg (by decide), if_neg (fun e => hn (by have := congrArg (fun b : ByteArray => b.data.toList) e; simpa using this)), if_neg (by
  show ¬ (64 < (((sq x).toArray.size : Nat) : Int))
  simp; omega)]
theorem at_spec (t : ByteArray) (a b : List UInt8) (e : t.data.toList = a ++ 64 :: b) (hb : (64 : UInt8) ∉ b) : atN t = a.length + 1 := by
 have hsz : t.size = a.length + 1 + b.length := by
  have : t.data.toList.length = t.size := by simp
  rw [e] at this; simp at this; omega
 have get : ∀ j (h : j < t.size), t.data[j]! = t.data.toList[j]'(by simpa using h) := by
  intro j h; rw [getElem!_pos t.data j (by simpa using h)]
  simp
 unfold atN lastIndexByte
 rcases lastIdx_spec t 64 t.size with ⟨h1, h2⟩ | ⟨i, hi, h1, h2, h3⟩
 ·
  exfalso
  have h4 := h2 a.length (by omega); rw [get a.length (by omega)] at h4
  apply h4
  have : t.data.toList[a.length]'(by simp; omega) = 64 := by simp only [e]; rw [List.getElem_append_right (Nat.le_refl _)]; simp
  rw [this]; rfl
 ·
  rw [h1]; have hia : i = a.length := by
   rcases Nat.lt_trichotomy i a.length with h | h | h
   ·
    exfalso
    have h4 := h3 a.length h (by omega); rw [get a.length (by omega)] at h4
    apply h4
    have : t.data.toList[a.length]'(by simp; omega) = 64 := by simp only [e]; rw [List.getElem_append_right (Nat.le_refl _)]; simp
    rw [this]; rfl
   ·
    exact h
   ·
    exfalso
    rw [get i hi] at h2; obtain ⟨m, rfl⟩ : ∃ m, i = a.length + 1 + m := ⟨i - (a.length + 1), by omega⟩; have h5 : t.data.toList[a.length + 1 + m]'(by simpa using hi) ∈ b := by
     have : t.data.toList[a.length + 1 + m]'(by simpa using hi) = b[m]'(by omega) := by
      simp only [e]; rw [List.getElem_append_right (by omega)]; have hm : a.length + 1 + m - a.length = m + 1 := by omega
      simp only [hm, List.getElem_cons_succ]
     rw [this]; exact List.getElem_mem _
    have h6 : t.data.toList[a.length + 1 + m]'(by simpa using hi) = 64 := UInt8.toNat_inj.1 (by show _ = 64; omega)
    rw [h6] at h5; exact hb h5
  rw [hia]; omega
theorem lowAt_spec (t : ByteArray) (a b : List UInt8) (e : t.data.toList = a ++ 64 :: b) (hb : (64 : UInt8) ∉ b) : (lowAt t).data.toList = a ++ 64 :: lowL b := by
 have hn := at_spec t a b e hb; have hsz : t.data.toList.length = t.size := by simp
 unfold lowAt
 rw [hn, app_list]; have h1 : (t.extract 0 (a.length + 1)).data.toList = t.data.toList.take (a.length + 1) := by simp
 have h2 : (t.extract (a.length + 1) t.size).data.toList = t.data.toList.drop (a.length + 1) := by simp [List.take_of_length_le]
 rw [h1]
 show _ ++ lowL ((t.extract (a.length + 1) t.size).data.toList) = _
 rw [h2, e, show a ++ 64 :: b = (a ++ [64]) ++ b by simp, List.take_left' (by simp), List.drop_left' (by simp)]
 simp
theorem lowL_id (b : List UInt8) (h : ∀ c ∈ b, low c = c) : lowL b = b := by
 unfold lowL
 exact (List.map_congr_left h).trans (List.map_id b)
theorem mail_self {x : List UInt8} (h : mailB x = true) : mailS ⟨x.toArray⟩ = (⟨x.toArray⟩, 0) := by
 have A := mail_parts x h; have hr := addrs_range A; have hs : sq x = x := sq_solid x (fun c hc => by intro e; have := hr c hc; rw [e] at this; exact absurd this (by decide)); have hc := clean_of x (fun c hc => by have := hr c hc; omega) (by rw [hs, A.eq]; simp) (by rw [hs]; exact A.len); rw [hs] at hc; have hl : lowAt ⟨x.toArray⟩ = ⟨x.toArray⟩ := bs_ext (by
  rw [lowAt_spec ⟨x.toArray⟩ _ _ A.eq A.nb, lowL_id _ (fun c hc => (dom_range (dom_all A.dom) c hc).2.2.2)]
  exact A.eq.symm)
 unfold mailS mailOf
 rw [hc, if_pos rfl, hl, if_pos h]
theorem mail_cases (s : ByteArray) : ((mailS s).2 = 0 ∧ mailB (mailS s).1.data.toList = true) ∨ ((mailS s).2 ≠ 0 ∧ (mailS s).1 = ⟨#[]⟩ ∧ mailB s.data.toList = false) := by
 by_cases h : mailB s.data.toList = true
 ·
  have := mail_self h; have e : (⟨s.data.toList.toArray⟩ : ByteArray) = s := rfl; rw [e] at this
  left
  rw [this]
  exact ⟨rfl, h⟩
 ·
  have h' : mailB s.data.toList = false := by simpa using h
  unfold mailS mailOf
  by_cases hk : (cleanS s).2 = 0
  ·
   rw [if_pos hk]
   by_cases ht : mailB (lowAt (cleanS s).1).data.toList = true
   ·
    rw [if_pos ht]; exact .inl ⟨rfl, ht⟩
   ·
    rw [if_neg ht]; exact .inr ⟨by simp, rfl, h'⟩
  ·
   rw [if_neg hk]; exact .inr ⟨hk, rfl, h'⟩
theorem dot_index (c : UInt8) : (dotC c = true ∧ (∃ j : Int, 0 ≤ j ∧ indexByte [46, 95, 43, 45] c = j)) ∨ (dotC c = false ∧ indexByte [46, 95, 43, 45] c = -1) := by
 cases h : dotC c with
 | true =>
  refine .inl ⟨rfl, _, ?_, rfl⟩
  unfold dotC at h
  simp only [Bool.or_eq_true, beq_iff_eq] at h
  rcases h with ((h | h) | h) | h <;> subst h <;> decide
 | false =>
  refine .inr ⟨rfl, ?_⟩
  unfold dotC at h
  simp only [Bool.or_eq_false_iff, beq_eq_false_iff_ne] at h; obtain ⟨⟨⟨h1, h2⟩, h3⟩, h4⟩ := h; simp only [indexByte, beq_iff_eq, h1.symm, h2.symm, h3.symm, h4.symm, if_false, if_true]
theorem isLocal_any (s : ByteArray) (hs : s.size ≤ 1000000) (w : World) (hM : Mx w) : Calls Tryz.prog 191 #[.string s] w fun e w' => e = .returned (.bool (localB s.data.toList)) ∧ w' = w := by
 have hsl : s.data.toList.length = s.size := by simp
 obtain ⟨m, hm⟩ := hM; have hz1 : ((⟨#[46]⟩ : ByteArray) ++ s).size = s.size + 1 := by rw [ByteArray.size_append]; show 1 + _ = _; omega
 have hz2 : (((⟨#[46]⟩ : ByteArray) ++ s) ++ ⟨#[46]⟩).size = s.size + 2 := by rw [ByteArray.size_append, hz1]; show _ + 1 + 1 = _; rfl
 have hC := Tryz.strings_Contains (((⟨#[46]⟩ : ByteArray) ++ s) ++ ⟨#[46]⟩) ⟨#[46, 46]⟩ m w (by omega) hm; have hpl : (((⟨#[46]⟩ : ByteArray) ++ s) ++ ⟨#[46]⟩).data.toList = [46] ++ s.data.toList ++ [46] := by rw [app_list, app_list]
 rw [hpl, show (⟨#[46, 46]⟩ : ByteArray).data.toList = [46, 46] from rfl, contains_adj] at hC; have hr0 : localB s.data.toList = (decide (1 ≤ (s.size : Int)) && decide ((s.size : Int) ≤ 32) && !adj ([46] ++ s.data.toList ++ [46]) && s.data.toList.all locC) := by
  unfold localB; rw [hsl]
 obtain ⟨r, hr⟩ : ∃ r, localB s.data.toList = r := ⟨_, rfl⟩; obtain ⟨ad, had⟩ : ∃ r, adj ([46] ++ s.data.toList ++ [46]) = r := ⟨_, rfl⟩; rw [hr, had] at hr0; rw [hr]; rw [had] at hC; have HR := Zh hr0; have HC0 := Zh hC; have hsI : (s.size : Int) ≤ 1000000 := by omega
 have hq1 : ((⟨#[46]⟩ : ByteArray).size : Int) = 1 := rfl; have hz1I : (((⟨#[46]⟩ : ByteArray) ++ s).size : Int) = (s.size : Int) + 1 := by omega
 clear hr0 hr hsl hC hz1 hz2 hpl had hm
 by_cases h1 : (s.size : Int) < 1
 ·
  have H0 := Zh (show r = false by rw [HR.out, decide_eq_false (by omega)]; rfl); clear hz1I
  go_enter Tryz.func191, Tryz.ntmps191
  go_wp2
  go_ret
  exact ⟨by rw [H0.out]; rfl, rfl⟩
 ·
  by_cases h32 : (s.size : Int) > 32
  ·
   have H0 := Zh (show r = false by rw [HR.out, decide_eq_false (show ¬ (s.size : Int) ≤ 32 by omega)]; simp); clear hz1I
   go_enter Tryz.func191, Tryz.ntmps191
   go_wp2
   go_ret
   exact ⟨by rw [H0.out]; rfl, rfl⟩
  ·
   have HR2 := Zh (show r = (!ad && s.data.toList.all locC) by rw [HR.out, decide_eq_true (by omega), decide_eq_true (by omega)]; rfl); clear HR
   cases ad with
   | true =>
    have H0 := Zh (show r = false by rw [HR2.out]; rfl)
    go_enter Tryz.func191, Tryz.ntmps191
    go_wp2_with (go_at_call 198; (with_reducible refine (HC0.out).mono ?_); rintro e w1 ⟨rfl, hw⟩; replace hw := hw.symm; subst hw)
    go_ret
    exact ⟨by rw [H0.out]; rfl, rfl⟩
   | false =>
    have HR3 := Zh (show r = s.data.toList.all locC by rw [HR2.out]; rfl); have HS := Zh sod_any; have HIB := Zh (fun (c : UInt8) w => Tryz.strings_IndexByte ⟨#[46, 95, 43, 45]⟩ (c.toNat : Int) w); clear HR2
    go_enter Tryz.func191, Tryz.ntmps191
    go_wp2_with (go_at_call 198; (with_reducible refine (HC0.out).mono ?_); rintro e w1 ⟨rfl, hw⟩; replace hw := hw.symm; subst hw)
    go_loop [21] (fun i => ∃ k : Nat, k ≤ s.size ∧ i = .int .i64 (k : Int) ∧ (s.data.toList.take k).all locC = true) (fun i => s.size - (intOf i).toNat)
    case atStart => exact ⟨0, Nat.zero_le _, rfl, by simp⟩
    case round =>
     obtain ⟨k, hk, rfl, hno⟩ := hrel; have HN := Zh hno; clear hno hz1I
     by_cases hlt : k < s.size
     ·
      have HT := Zh (take_snoc_all locC s k hlt); have HM := Zh (miss_all locC s k hlt); obtain ⟨c, hc⟩ : ∃ c, s[k] = c := ⟨_, rfl⟩; rw [hc] at HT HM; have hc8 : (c.toNat : Int) ≤ 255 := by have := c.toNat_lt; omega
      have HC := Zh (fun w => HS.out c w); have hi1 := HIB.out c; have e8 : (c.toNat : Int).toNat.toUInt8 = c := by simp
      rw [e8] at hi1
      by_cases hcap : 65 ≤ (c.toNat : Int) ∧ (c.toNat : Int) ≤ 90
      ·
       have HE := Zh (show (s.data.toList.take (k + 1)).all locC = true by
        rw [HT.out, HN.out]; unfold locC capB; rw [decide_eq_true hcap.1, decide_eq_true hcap.2]; rfl)
       obtain ⟨g1, g2⟩ := hcap; clear hi1 e8
       go_wp2
       exact ⟨⟨k + 1, by omega, by go_num, HE.out⟩, by simp [intOf]; omega⟩
      ·
       have hcf : capB c = false := by
        unfold capB
        rw [Bool.and_eq_false_iff]
        by_cases h : 65 ≤ (c.toNat : Int)
        ·
         right; exact decide_eq_false (fun e => hcap ⟨h, e⟩)
        ·
         left; exact decide_eq_false h
       have HCF := Zh hcf; have hsplit : ¬ (65 ≤ (c.toNat : Int)) ∨ (65 ≤ (c.toNat : Int) ∧ ¬ (c.toNat : Int) ≤ 90) := by
        by_cases h : 65 ≤ (c.toNat : Int)
        ·
         exact .inr ⟨h, fun e => hcap ⟨h, e⟩⟩
        ·
         exact .inl h
       clear hcf hcap
       cases hd : sodB c with
       | true =>
        rw [hd] at HC; have HE := Zh (show (s.data.toList.take (k + 1)).all locC = true by rw [HT.out, HN.out]; unfold locC; rw [hd]; simp); clear hd hi1 e8
        rcases hsplit with g | ⟨g1, g⟩
        ·
         have g' : decide (65 ≤ (c.toNat : Int)) = false := by simpa using g
         go_wp2_with (go_at_call 199; (with_reducible refine (HC.out _).mono ?_); rintro e w1 ⟨rfl, hw⟩; replace hw := hw.symm; subst hw)
         exact ⟨⟨k + 1, by omega, by go_num, HE.out⟩, by simp [intOf]; omega⟩
        ·
         have g' : decide ((c.toNat : Int) ≤ 90) = false := by simpa using g
         go_wp2_with (go_at_call 199; (with_reducible refine (HC.out _).mono ?_); rintro e w1 ⟨rfl, hw⟩; replace hw := hw.symm; subst hw)
         exact ⟨⟨k + 1, by omega, by go_num, HE.out⟩, by simp [intOf]; omega⟩
       | false =>
        rw [hd] at HC
        rcases dot_index c with ⟨b1, j, hj, b2⟩ | ⟨b1, b2⟩
        ·
         rw [b2] at hi1; have HI1 := Zh hi1; have HE := Zh (show (s.data.toList.take (k + 1)).all locC = true by rw [HT.out, HN.out]; unfold locC; rw [b1]; simp); have hj' : ¬ j < 0 := by omega
         clear hi1 b2 b1 e8 hd
         rcases hsplit with g | ⟨g1, g⟩
         ·
          have g' : decide (65 ≤ (c.toNat : Int)) = false := by simpa using g
          go_wp2_with (first | (go_at_call 199; (with_reducible refine (HC.out _).mono ?_); rintro e w1 ⟨rfl, hw⟩; replace hw := hw.symm; subst hw) | (go_at_call 77; (with_reducible refine (HI1.out _).mono ?_); rintro e w1 ⟨rfl, hw⟩; replace hw := hw.symm; subst hw))
          exact ⟨⟨k + 1, by omega, by go_num, HE.out⟩, by simp [intOf]; omega⟩
         ·
          have g' : decide ((c.toNat : Int) ≤ 90) = false := by simpa using g
          go_wp2_with (first | (go_at_call 199; (with_reducible refine (HC.out _).mono ?_); rintro e w1 ⟨rfl, hw⟩; replace hw := hw.symm; subst hw) | (go_at_call 77; (with_reducible refine (HI1.out _).mono ?_); rintro e w1 ⟨rfl, hw⟩; replace hw := hw.symm; subst hw))
          exact ⟨⟨k + 1, by omega, by go_num, HE.out⟩, by simp [intOf]; omega⟩
        ·
         rw [b2] at hi1; have HI1 := Zh hi1; have H0 := Zh (show r = false by rw [HR3.out]; exact HM.out (by unfold locC; rw [b1, hd, HCF.out]; rfl)); clear hi1 b2 b1 e8 hd
         rcases hsplit with g | ⟨g1, g⟩
         ·
          have g' : decide (65 ≤ (c.toNat : Int)) = false := by simpa using g
          go_wp2_with (first | (go_at_call 199; (with_reducible refine (HC.out _).mono ?_); rintro e w1 ⟨rfl, hw⟩; replace hw := hw.symm; subst hw) | (go_at_call 77; (with_reducible refine (HI1.out _).mono ?_); rintro e w1 ⟨rfl, hw⟩; replace hw := hw.symm; subst hw))
          go_ret
          exact ⟨by rw [H0.out]; rfl, rfl⟩
         ·
          have g' : decide ((c.toNat : Int) ≤ 90) = false := by simpa using g
          go_wp2_with (first | (go_at_call 199; (with_reducible refine (HC.out _).mono ?_); rintro e w1 ⟨rfl, hw⟩; replace hw := hw.symm; subst hw) | (go_at_call 77; (with_reducible refine (HI1.out _).mono ?_); rintro e w1 ⟨rfl, hw⟩; replace hw := hw.symm; subst hw))
          go_ret
          exact ⟨by rw [H0.out]; rfl, rfl⟩
     ·
      have hks : k = s.size := by omega
      subst hks; have H0 := Zh (show r = true by rw [HR3.out, ← HN.out, List.take_of_length_le (by simp)])
      go_wp2
      go_ret
      exact ⟨by rw [H0.out]; rfl, rfl⟩
def partsOf (p q : ByteArray) (found : Bool) (n : Nat) : ByteArray × ByteArray × Bool := if (found && decide ((n : Int) ≤ 64) && localB p.data.toList && domB q.data.toList) = true then (p, q, true) else (⟨#[]⟩, ⟨#[]⟩, false)
def partsS (s : ByteArray) : ByteArray × ByteArray × Bool := partsOf ⟨(cut s.data.toList [64]).1.toArray⟩ ⟨(cut s.data.toList [64]).2.1.toArray⟩ (cut s.data.toList [64]).2.2 s.size
theorem parts_mail (s : ByteArray) : partsS s = if mailB s.data.toList = true then (⟨(cut s.data.toList [64]).1.toArray⟩, ⟨(cut s.data.toList [64]).2.1.toArray⟩, true) else (⟨#[]⟩, ⟨#[]⟩, false) := by
 unfold partsS partsOf mailB
 have : s.data.toList.length = s.size := by simp
 rw [this, bs_list, bs_list]
theorem parts_ok (s : ByteArray) : (partsS s).2.2 = mailB s.data.toList := by
 rw [parts_mail]
 cases h : mailB s.data.toList <;> simp
theorem cut_len (l : List UInt8) : (cut l [64]).1.length ≤ l.length ∧ (cut l [64]).2.1.length ≤ l.length := by
 by_cases h : (64 : UInt8) ∈ l
 ·
  obtain ⟨a, b, e, ha⟩ := first_at l 64 h
  rw [e, cut_has a b 64 ha]; simp; omega
 ·
  rw [cut_not l 64 h]; simp
theorem parts_any (s : ByteArray) (hs : s.size ≤ 1000000) (w : World) (hM : Mx w) : Calls Tryz.prog 182 #[.string s] w fun e w' => e = .returned (.tuple #[.string (partsS s).1, .string (partsS s).2.1, .bool (partsS s).2.2]) ∧ Below w.heap.size w w' := by
 have hlt := hM.lt; have HMx := Zh hM; obtain ⟨m, hm⟩ := hM; have hC := Tryz.strings_Cut s ⟨#[64]⟩ m w (by omega) hm; have hcl := cut_len s.data.toList; have hsl : s.data.toList.length = s.size := by simp
 have hr0 : partsS s = partsOf ⟨(cut s.data.toList [64]).1.toArray⟩ ⟨(cut s.data.toList [64]).2.1.toArray⟩ (cut s.data.toList [64]).2.2 s.size := rfl; rw [show (⟨#[64]⟩ : ByteArray).data.toList = [64] from rfl] at hC; obtain ⟨p, hp⟩ : ∃ p : ByteArray, (⟨(cut s.data.toList [64]).1.toArray⟩ : ByteArray) = p := ⟨_, rfl⟩; obtain ⟨q, hq⟩ : ∃ q : ByteArray, (⟨(cut s.data.toList [64]).2.1.toArray⟩ : ByteArray) = q := ⟨_, rfl⟩; obtain ⟨fd, hf⟩ : ∃ f, (cut s.data.toList [64]).2.2 = f := ⟨_, rfl⟩; have hps : p.size ≤ 1000000 := by rw [← hp]; show (cut s.data.toList [64]).1.toArray.size ≤ _; rw [List.size_toArray]; omega
 have hqs : q.size ≤ 1000000 := by rw [← hq]; show (cut s.data.toList [64]).2.1.toArray.size ≤ _; rw [List.size_toArray]; omega
 rw [hp, hq, hf] at hr0 hC; obtain ⟨r, hr⟩ : ∃ r, partsS s = r := ⟨_, rfl⟩; rw [hr] at hr0 ⊢; have HR := Zh (show r = if (fd && decide ((s.size : Int) ≤ 64) && localB p.data.toList && domB q.data.toList) = true then (p, q, true) else (⟨#[]⟩, ⟨#[]⟩, false) from hr0); have HC := Zh hC; have HL := Zh (fun w h => isLocal_any p hps w h); have HD := Zh (fun w h => isDomain_any q hqs w h); have hsI : (s.size : Int) ≤ 1000000 := by omega
 obtain ⟨lo, hlo⟩ : ∃ l, localB p.data.toList = l := ⟨_, rfl⟩; obtain ⟨dm, hdm⟩ : ∃ l, domB q.data.toList = l := ⟨_, rfl⟩; rw [hlo] at HL HR; rw [hdm] at HD HR; have HMd := Zh (fun n => (show Mx (w.drewN n) from HMx.out)); clear hr0 hr hC hcl hsl hp hq hf hps hqs hlo hdm hm
 cases fd with
 | false =>
  have H0 := Zh (show r = (⟨#[]⟩, ⟨#[]⟩, false) by rw [HR.out]; rfl)
  go_enter Tryz.func182, Tryz.ntmps182
  go_wp2_with (first | (go_at_call 97; (with_reducible refine (HC.out).mono ?_); rintro e w1 ⟨rfl, n1, hw⟩; subst hw))
  go_ret3
  exact ⟨by rw [H0.out]; rfl, below_drewN (Below.refl _ _) _⟩
 | true =>
  by_cases h64 : (s.size : Int) > 64
  ·
   have h64' : decide ((s.size : Int) ≤ 64) = false := by simpa using h64
   have H0 := Zh (show r = (⟨#[]⟩, ⟨#[]⟩, false) by rw [HR.out, h64']; rfl)
   go_enter Tryz.func182, Tryz.ntmps182
   go_wp2_with (first | (go_at_call 97; (with_reducible refine (HC.out).mono ?_); rintro e w1 ⟨rfl, n1, hw⟩; subst hw))
   go_ret3
   exact ⟨by rw [H0.out]; rfl, below_drewN (Below.refl _ _) _⟩
  ·
   have h64' : decide ((s.size : Int) ≤ 64) = true := by simpa using h64
   have HR2 := Zh (show r = if (lo && dm) = true then (p, q, true) else (⟨#[]⟩, ⟨#[]⟩, false) by rw [HR.out, h64']; rfl); clear HR h64'
   cases lo with
   | false =>
    have H0 := Zh (show r = (⟨#[]⟩, ⟨#[]⟩, false) by rw [HR2.out]; rfl)
    go_enter Tryz.func182, Tryz.ntmps182
    go_wp2_with (first | (go_at_call 97; (with_reducible refine (HC.out).mono ?_); rintro e w1 ⟨rfl, n1, hw⟩; subst hw) | (go_at_call 191; (with_reducible refine (HL.out _ (HMd.out n1)).mono ?_); rintro e w2 ⟨rfl, hw⟩; replace hw := hw.symm; subst hw))
    go_ret3
    exact ⟨by rw [H0.out]; rfl, below_drewN (Below.refl _ _) _⟩
   | true =>
    cases dm with
    | false =>
     have H0 := Zh (show r = (⟨#[]⟩, ⟨#[]⟩, false) by rw [HR2.out]; rfl)
     go_enter Tryz.func182, Tryz.ntmps182
     go_wp2_with (first | (go_at_call 97; (with_reducible refine (HC.out).mono ?_); rintro e w1 ⟨rfl, n1, hw⟩; subst hw) | (go_at_call 191; (with_reducible refine (HL.out _ (HMd.out n1)).mono ?_); rintro e w2 ⟨rfl, hw⟩; replace hw := hw.symm; subst hw) | (go_at_call 192; (with_reducible refine (HD.out _ (HMd.out n1)).mono ?_); rintro e w3 ⟨rfl, h3⟩; have HB3 := Zh h3; clear h3))
     go_ret3
     exact ⟨by rw [H0.out]; rfl, (below_drewN (Below.refl w.heap.size w) n1).trans (HB3.out)⟩
    | true =>
     have H0 := Zh (show r = (p, q, true) by rw [HR2.out]; rfl)
     go_enter Tryz.func182, Tryz.ntmps182
     go_wp2_with (first | (go_at_call 97; (with_reducible refine (HC.out).mono ?_); rintro e w1 ⟨rfl, n1, hw⟩; subst hw) | (go_at_call 191; (with_reducible refine (HL.out _ (HMd.out n1)).mono ?_); rintro e w2 ⟨rfl, hw⟩; replace hw := hw.symm; subst hw) | (go_at_call 192; (with_reducible refine (HD.out _ (HMd.out n1)).mono ?_); rintro e w3 ⟨rfl, h3⟩; have HB3 := Zh h3; clear h3))
     go_ret3
     exact ⟨by rw [H0.out]; rfl, (below_drewN (Below.refl w.heap.size w) n1).trans (HB3.out)⟩
end Go.Proofs.YtphijnkiiokieaaGreatDoor
