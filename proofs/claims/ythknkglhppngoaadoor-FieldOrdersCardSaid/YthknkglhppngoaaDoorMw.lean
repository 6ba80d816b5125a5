/- Addresses: labels, domains, local parts. -/
import Derived.Test.YthknkglhppngoaaDoorMm
import Derived.Test.YthknkglhppngoaaDoorCl
namespace Go.Proofs.YthknkglhppngoaaDoor
open Go.RowKit
open Go.Lib hiding intOf
set_option linter.unusedVariables false
set_option maxRecDepth 20000
set_option maxHeartbeats 1000000 in
theorem sod_any (c : UInt8) (w : World) : Calls Tryd.prog 63 #[.int .u8 (c.toNat : Int)] w fun e w' => e = .returned (.bool (sodB c)) ∧ w' = w := by
  have hc8 : (c.toNat : Int) ≤ 255 := by have := c.toNat_lt; omega
  obtain ⟨r, hr⟩ : ∃ r, sodB c = r := ⟨_, rfl⟩
  rw [hr]
  have HR := Lib.hid (show r = ((decide (97 ≤ (c.toNat : Int)) && decide ((c.toNat : Int) ≤ 122)) || (decide (48 ≤ (c.toNat : Int)) && decide ((c.toNat : Int) ≤ 57))) by rw [← hr]; rfl)
  clear hr
  by_cases u1 : 97 ≤ (c.toNat : Int)
  · by_cases u2 : (c.toNat : Int) ≤ 122
    · have e := Lib.hid (show r = true by rw [HR.out]; simp [u1, u2])
      go_enter Tryd.func63, Tryd.ntmps63
      go_wp2
      go_ret
      exact ⟨by rw [e.out]; rfl, rfl⟩
    · have u2' : decide ((c.toNat : Int) ≤ 122) = false := by simpa using u2
      have u3 : 48 ≤ (c.toNat : Int) := by omega
      have u4 : ¬ (c.toNat : Int) ≤ 57 := by omega
      have u4' : decide ((c.toNat : Int) ≤ 57) = false := by simpa using u4
      have e := Lib.hid (show r = false by rw [HR.out, u2', u4']; simp)
      clear HR
      go_enter Tryd.func63, Tryd.ntmps63
      go_wp2
      go_ret
      exact ⟨by rw [e.out]; rfl, rfl⟩
  · have u1' : decide (97 ≤ (c.toNat : Int)) = false := by simpa using u1
    by_cases u3 : 48 ≤ (c.toNat : Int)
    · by_cases u4 : (c.toNat : Int) ≤ 57
      · have e := Lib.hid (show r = true by rw [HR.out]; simp [u3, u4])
        go_enter Tryd.func63, Tryd.ntmps63
        go_wp2
        go_ret
        exact ⟨by rw [e.out]; rfl, rfl⟩
      · have u4' : decide ((c.toNat : Int) ≤ 57) = false := by simpa using u4
        have e := Lib.hid (show r = false by rw [HR.out, u1', u4']; simp)
        go_enter Tryd.func63, Tryd.ntmps63
        go_wp2
        go_ret
        exact ⟨by rw [e.out]; rfl, rfl⟩
    · have u3' : decide (48 ≤ (c.toNat : Int)) = false := by simpa using u3
      have e := Lib.hid (show r = false by rw [HR.out, u1', u3']; simp)
      go_enter Tryd.func63, Tryd.ntmps63
      go_wp2
      go_ret
      exact ⟨by rw [e.out]; rfl, rfl⟩
theorem take_snoc_all (p : UInt8 → Bool) (d : ByteArray) (k : Nat) (hk : k < d.size) : (d.data.toList.take (k + 1)).all p = ((d.data.toList.take k).all p && p d[k]) := by
  rw [List.take_succ_eq_append_getElem (by simpa using hk), List.all_append]
  simp
  rfl
theorem miss_all (p : UInt8 → Bool) (d : ByteArray) (k : Nat) (hk : k < d.size) (h : p d[k] = false) : d.data.toList.all p = false := by
  rw [List.all_eq_false]
  refine ⟨d[k], ?_, by rw [h]; simp⟩
  have : d.data.toList[k]'(by simpa using hk) ∈ d.data.toList := List.getElem_mem _
  exact this
theorem getD_at (s : ByteArray) (k : Nat) (h : k < s.size) : s.data.toList.getD k 0 = s[k] := by
  rw [List.getD_eq_getElem?_getD, List.getElem?_eq_getElem (by simpa using h)]; rfl
theorem byte_of {c : UInt8} {n : Nat} (k : UInt8) (hk : k.toNat = n) (h : (c.toNat : Int) = n) : c = k := UInt8.toNat_inj.1 (by omega)
theorem byte_beq (c k : UInt8) : (c == k) = ((c.toNat : Int) == (k.toNat : Int)) := by
  by_cases h : c = k
  · subst h; simp
  · have h1 : (c == k) = false := by simpa using h
    rw [h1]; symm
    rw [beq_eq_false_iff_ne]
    intro e; exact h (UInt8.toNat_inj.1 (by omega))
set_option maxHeartbeats 4000000 in
theorem isLabel_any (s : ByteArray) (hs : s.size ≤ 1000000) (w : World) : Calls Tryd.prog 65 #[.string s] w fun e w' => e = .returned (.bool (labelB s.data.toList)) ∧ w' = w := by
  have hsl : s.data.toList.length = s.size := by simp
  have hr0 : labelB s.data.toList = (decide (1 ≤ (s.size : Int)) && decide ((s.size : Int) ≤ 20) && !(s.data.toList.getD 0 0 == 45) && !(s.data.toList.getD (s.size - 1) 0 == 45) && s.data.toList.all labC) := by
    unfold labelB; rw [hsl]
  obtain ⟨r, hr⟩ : ∃ r, labelB s.data.toList = r := ⟨_, rfl⟩
  rw [hr] at hr0 ⊢
  have HR := Lib.hid hr0
  have hsI : (s.size : Int) ≤ 1000000 := by omega
  clear hr0 hr hsl
  by_cases h1 : (s.size : Int) < 1
  · have H0 := Lib.hid (show r = false by rw [HR.out, decide_eq_false (by omega)]; rfl)
    go_enter Tryd.func65, Tryd.ntmps65
    go_wp2
    go_ret
    exact ⟨by rw [H0.out]; rfl, rfl⟩
  · by_cases h20 : (s.size : Int) > 20
    · have H0 := Lib.hid (show r = false by rw [HR.out, decide_eq_false (show ¬ (s.size : Int) ≤ 20 by omega)]; simp)
      go_enter Tryd.func65, Tryd.ntmps65
      go_wp2
      go_ret
      exact ⟨by rw [H0.out]; rfl, rfl⟩
    · obtain ⟨n, hn⟩ : ∃ n, s.size = n + 1 := ⟨s.size - 1, by omega⟩
      have hz : 0 < s.size := by omega
      have hns : n < s.size := by omega
      have hnI : (s.size : Int) - 1 = (n : Int) := by omega
      have HR2 := Lib.hid (show r = (!((s[0].toNat : Int) == 45) && !((s[n].toNat : Int) == 45) && s.data.toList.all labC) by
        rw [HR.out, decide_eq_true (by omega), decide_eq_true (by omega), show s.size - 1 = n by omega, getD_at s 0 hz, getD_at s n hns, byte_beq, byte_beq]; rfl)
      clear HR
      by_cases u0 : (s[0].toNat : Int) = 45
      · have u0' : ((s[0].toNat : Int) == 45) = true := by rw [u0]; rfl
        have H0 := Lib.hid (show r = false by rw [HR2.out, u0']; rfl)
        clear u0 HR2 hn
        go_enter Tryd.func65, Tryd.ntmps65
        go_wp2
        go_ret
        exact ⟨by rw [H0.out]; rfl, rfl⟩
      · have u0' : ((s[0].toNat : Int) == 45) = false := by simpa using u0
        by_cases u9 : (s[n].toNat : Int) = 45
        · have u9' : ((s[n].toNat : Int) == 45) = true := by rw [u9]; rfl
          have H0 := Lib.hid (show r = false by rw [HR2.out, u9', u0']; rfl)
          clear u0 u9 HR2 hn
          go_enter Tryd.func65, Tryd.ntmps65
          go_wp2
          go_ret
          exact ⟨by rw [H0.out]; rfl, rfl⟩
        · have u9' : ((s[n].toNat : Int) == 45) = false := by simpa using u9
          have HR3 := Lib.hid (show r = s.data.toList.all labC by rw [HR2.out, u9', u0']; rfl)
          have HS := Lib.hid sod_any
          clear u0 u9 HR2 hn
          go_enter Tryd.func65, Tryd.ntmps65
          go_wp2
          go_loop [28] (fun i => ∃ k : Nat, k ≤ s.size ∧ i = .int .i64 (k : Int) ∧ (s.data.toList.take k).all labC = true) (fun i => s.size - (intOf i).toNat)
          case atStart => exact ⟨0, Nat.zero_le _, rfl, by simp⟩
          case round =>
            obtain ⟨k, hk, rfl, hno⟩ := hrel
            have HN := Lib.hid hno
            clear hno
            by_cases hlt : k < s.size
            · have HT := Lib.hid (take_snoc_all labC s k hlt)
              have HM := Lib.hid (miss_all labC s k hlt)
              obtain ⟨c, hc⟩ : ∃ c, s[k] = c := ⟨_, rfl⟩
              rw [hc] at HT HM
              have hc8 : (c.toNat : Int) ≤ 255 := by have := c.toNat_lt; omega
              have HC := Lib.hid (fun w => HS.out c w)
              clear u0' u9' hnI
              cases hd : sodB c with
              | true =>
                rw [hd] at HC
                have HE := Lib.hid (show (s.data.toList.take (k + 1)).all labC = true by rw [HT.out, HN.out]; unfold labC; rw [hd]; rfl)
                clear hd
                go_wp2_with (go_at_call 63; (with_reducible refine (HC.out _).mono ?_); rintro e w1 ⟨rfl, hw⟩; replace hw := hw.symm; subst hw)
                exact ⟨⟨k + 1, by omega, by go_num, HE.out⟩, by simp [intOf]; omega⟩
              | false =>
                rw [hd] at HC
                by_cases u5 : (c.toNat : Int) = 45
                · have u5' : ((c.toNat : Int) == 45) = true := by rw [u5]; rfl
                  have u5n : ((c.toNat : Int) != 45) = false := by rw [u5]; rfl
                  have HE := Lib.hid (show (s.data.toList.take (k + 1)).all labC = true by rw [HT.out, HN.out]; unfold labC; rw [u5']; simp)
                  clear hd u5
                  go_wp2_with (go_at_call 63; (with_reducible refine (HC.out _).mono ?_); rintro e w1 ⟨rfl, hw⟩; replace hw := hw.symm; subst hw)
                  exact ⟨⟨k + 1, by omega, by go_num, HE.out⟩, by simp [intOf]; omega⟩
                · have u5' : ((c.toNat : Int) == 45) = false := by simpa using u5
                  have u5n : ((c.toNat : Int) != 45) = true := by simpa using u5
                  have H0 := Lib.hid (show r = false by rw [HR3.out]; exact HM.out (by unfold labC; rw [u5', hd]; rfl))
                  clear hd u5
                  go_wp2_with (go_at_call 63; (with_reducible refine (HC.out _).mono ?_); rintro e w1 ⟨rfl, hw⟩; replace hw := hw.symm; subst hw)
                  go_ret
                  exact ⟨by rw [H0.out]; rfl, rfl⟩
            · have hks : k = s.size := by omega
              subst hks
              have H0 := Lib.hid (show r = true by rw [HR3.out, ← HN.out, List.take_of_length_le (by simp)])
              go_wp2
              go_ret
              exact ⟨by rw [H0.out]; rfl, rfl⟩
/-- internal/bytealg.MaxLen holds some number. -/
def Mx (w : World) : Prop := ∃ m, w.cell? ⟨0, 0, none⟩ = some (.int .i64 m)
theorem Mx.keep {w w' : World} {B : Nat} (h : Mx w) (hb : Below B w w') (hB : 0 < B) : Mx w' := by
  obtain ⟨m, hm⟩ := h
  exact ⟨m, (hb.cell (p := ⟨0, 0, none⟩) hB).trans hm⟩
theorem Mx.lt {w : World} (h : Mx w) : 0 < w.heap.size := by
  obtain ⟨m, hm⟩ := h
  exact cell_lt hm
set_option maxHeartbeats 4000000 in
theorem isDomain_any (s : ByteArray) (hs : s.size ≤ 1000000) (w : World) (hM : Mx w) : Calls Tryd.prog 55 #[.string s] w fun e w' => e = .returned (.bool (domB s.data.toList)) ∧ Below w.heap.size w w' := by
  obtain ⟨m, hm⟩ := hM
  have HSp := Lib.hid (Tryd.strings_Split s ⟨#[46]⟩ m w (by omega) hm (Nat.le_refl _))
  have hL := splitB_list s.size s (Nat.le_refl _)
  have hLl := splitB_all ⟨#[46]⟩ (Nat.le_refl _) 0 _ s rfl
  have hcl := countB_le ⟨#[46]⟩ (Nat.le_refl _) s.size s (Nat.le_refl _)
  obtain ⟨n, hn⟩ : ∃ n, countB s ⟨#[46]⟩ + 1 = n := ⟨_, rfl⟩
  obtain ⟨L, hLL⟩ : ∃ L, splitB ⟨#[46]⟩ 0 (countB s ⟨#[46]⟩) s = L := ⟨_, rfl⟩
  rw [hLL] at hL hLl HSp
  have hnI : ((countB s ⟨#[46]⟩ + 1 : Nat) : Int) = (n : Int) := by omega
  rw [hn] at hLl HSp
  have hr0 : domB s.data.toList = (decide (2 ≤ (n : Int)) && L.all (fun b => labelB b.data.toList)) := by
    unfold domB
    rw [← hL, List.length_map, hLl, List.all_map]; rfl
  have hLs : ∀ x ∈ L, x.size ≤ 1000000 := by
    intro x hx
    have h1 : x.data.toList ∈ splitL s.data.toList := by rw [← hL]; exact List.mem_map_of_mem hx
    have h2 : ∀ (l : List UInt8) (p : List UInt8), p ∈ splitL l → p.length ≤ l.length := by
      intro l
      induction l with
      | nil => intro p hp; simp [splitL] at hp; subst hp; simp
      | cons c t ih =>
        intro p hp
        rw [split_cons] at hp
        split at hp
        · rcases List.mem_cons.1 hp with e | e
          · subst e; simp
          · have := ih p e; simp; omega
        · split at hp
          next e => exact absurd e (split_ne t)
          next h r e =>
            rw [e] at ih
            rcases List.mem_cons.1 hp with e2 | e2
            · subst e2; have := ih h (by simp); simp; omega
            · have := ih p (List.mem_cons_of_mem _ e2); simp; omega
    have h3 := h2 _ _ h1
    simp at h3
    omega
  obtain ⟨r, hr⟩ : ∃ r, domB s.data.toList = r := ⟨_, rfl⟩
  rw [hr] at hr0 ⊢
  have HR := Lib.hid hr0
  have HLs := Lib.hid hLs
  have HLl := Lib.hid hLl
  have hnb : (n : Int) ≤ 1000001 := by omega
  have HI := Lib.hid isLabel_any
  have HBl := Lib.hid (Blk.new w 9 (L.map Value.string).toArray)
  have HB0 := Lib.hid ((Below.refl w.heap.size w).alloc (Nat.le_refl _) (.cells (L.map Value.string).toArray 9))
  clear hr0 hr hLs hL hLl hLL hn hcl hnI hm
  go_enter Tryd.func55, Tryd.ntmps55
  obtain ⟨H, hH⟩ : ∃ H, w.heap.size = H := ⟨_, rfl⟩
  rw [hH] at HSp HBl HB0
  obtain ⟨W1, hW1⟩ : ∃ W1, w.alloc (.cells (L.map Value.string).toArray 9) = W1 := ⟨_, rfl⟩
  rw [hW1] at HSp HBl HB0
  clear hW1
  have HH := Lib.hid hH
  by_cases h2 : (n : Int) < 2
  · have H0 := Lib.hid (show r = false by rw [HR.out, decide_eq_false (by omega)]; rfl)
    clear hH
    go_wp2_with (go_at_call 64; (with_reducible refine (HSp.out).mono ?_); rintro e w1 ⟨rfl, hw⟩; subst hw)
    go_ret
    exact ⟨by rw [H0.out]; rfl, by rw [HH.out]; exact HB0.out⟩
  · have HR2 := Lib.hid (show r = L.all (fun b => labelB b.data.toList) by rw [HR.out, decide_eq_true (by omega)]; rfl)
    clear hH HR
    go_wp2_with (go_at_call 64; (with_reducible refine (HSp.out).mono ?_); rintro e w1 ⟨rfl, hw⟩; subst hw)
    go_loop [13] (fun i => ∃ k : Nat, k ≤ n ∧ i = .int .i64 (k : Int) ∧ (L.take k).all (fun b => labelB b.data.toList) = true) (fun i => n - (intOf i).toNat)
    case atStart => exact ⟨0, Nat.zero_le _, rfl, by simp⟩
    case round =>
      obtain ⟨k, hk, rfl, hno⟩ := hrel
      have HN := Lib.hid hno
      clear hno
      by_cases hlt : k < n
      · have hkL : k < L.length := by rw [HLl.out]; exact hlt
        have hcell : w1.cell? ⟨H, k, none⟩ = some (.string L[k]) := by
          rw [HBl.out.cell k]; simp [hkL]
        have HT := Lib.hid (show (L.take (k + 1)).all (fun b => labelB b.data.toList) = ((L.take k).all (fun b => labelB b.data.toList) && labelB L[k].data.toList) by
          rw [List.take_succ_eq_append_getElem hkL, List.all_append]; simp)
        have HMs := Lib.hid (show labelB L[k].data.toList = false → L.all (fun b => labelB b.data.toList) = false from fun h => by
          rw [List.all_eq_false]; exact ⟨L[k], List.getElem_mem _, by rw [h]; simp⟩)
        have hxs := HLs.out L[k] (List.getElem_mem _)
        obtain ⟨x, hx⟩ : ∃ x, L[k] = x := ⟨_, rfl⟩
        rw [hx] at hcell HT HMs hxs
        have HC := Lib.hid (fun w => HI.out x hxs w)
        clear hx hkL
        cases hd : labelB x.data.toList with
        | true =>
          rw [hd] at HC
          have HE := Lib.hid (show (L.take (k + 1)).all (fun b => labelB b.data.toList) = true by rw [HT.out, HN.out, hd]; rfl)
          clear hd
          go_wp2_with (go_at_call 65; (with_reducible refine (HC.out _).mono ?_); rintro e w2 ⟨rfl, hw⟩; replace hw := hw.symm; subst hw)
          exact ⟨⟨k + 1, by omega, by go_num, HE.out⟩, by simp [intOf]; omega⟩
        | false =>
          rw [hd] at HC
          have H0 := Lib.hid (show r = false by rw [HR2.out]; exact HMs.out hd)
          clear hd
          go_wp2_with (go_at_call 65; (with_reducible refine (HC.out _).mono ?_); rintro e w2 ⟨rfl, hw⟩; replace hw := hw.symm; subst hw)
          go_ret
          exact ⟨by rw [H0.out]; rfl, by rw [HH.out]; exact HB0.out⟩
      · have hkn : k = n := by omega
        subst hkn
        have H0 := Lib.hid (show r = true by rw [HR2.out, ← HN.out, List.take_of_length_le (by rw [HLl.out]; exact Nat.le_refl _)])
        go_wp2
        go_ret
        exact ⟨by rw [H0.out]; rfl, by rw [HH.out]; exact HB0.out⟩
end Go.Proofs.YthknkglhppngoaaDoor
